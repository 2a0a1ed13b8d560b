/- RayNearer: the walk: the law returns true, whatever ray, whatever moving shape and whatever numbers come in; nothing that was there is written. -/
import Derived.Test.YthlcfhnlkpobhaaYf
import Derived.Test.YthlcfhnlkpobhaaMo
import Derived.Test.YthlcfhnlkpobhaaLr
namespace Go.Proofs.Ythlcfhnlkpobhaa.rayNearerW
open Go.RowKit Go.Proofs.Ythlcfhnlkpobhaa Go.Proofs.Ythlcfhnlkpobhaa.Wa Go.Proofs.Ythlcfhnlkpobhaa.Ve Go.Proofs.Ythlcfhnlkpobhaa.Au Go.Proofs.Ythlcfhnlkpobhaa.Bx Go.Proofs.Ythlcfhnlkpobhaa.Yr
set_option linter.unusedVariables false
set_option linter.unusedSimpArgs false

theorem testR_none (fx fy fz dx dy dz : Int) (n0 n1 n2 : Int → Int) : testR fx fy fz dx dy dz n0 n1 n2 none = .tuple #[.agg #[.int .i64 0, .int .i64 0, .int .i64 0, .int .i64 0, .int .i64 0, .int .i64 0, .int .i64 0, .int .i64 0], .bool false] := rfl

theorem testR_some (fx fy fz dx dy dz t : Int) (n0 n1 n2 : Int → Int) : testR fx fy fz dx dy dz n0 n1 n2 (some t) = .tuple #[.agg #[.int .i64 t, .int .i64 0, .int .i64 (at1 fx dx t), .int .i64 (at1 fy dy t), .int .i64 (at1 fz dz t), .int .i64 (n0 t), .int .i64 (n1 t), .int .i64 (n2 t)], .bool true] := rfl

theorem far_le {far back : Int} (h : -2147483648 ≤ far) (h0 : 0 ≤ back) (h1 : back ≤ 65535) : wrap64 (min far 2147483648 - back) ≤ far := by
  unfold wrap64; omega

theorem short_less {t back : Int} (h : -2147483648 ≤ t) (h2 : t ≤ 2147483648) (h0 : 0 ≤ back) (h1 : back ≤ 65535) : t - 1 - back < t := by omega

theorem eq_avec_d (d : Nat) (x y z : Int) (W : World) : (Op.equalIn (d + 2) 71 (V3 x y z) (V3 x y z)).run Try.prog W = .ok true W := by
  rw [run_equalIn_struct W (d + 1) 71 _ _ (by kernel_rfl) (by kernel_rfl)]
  simp only [Program.fieldsOf, Try.underlying71, Op.eqFields]
  simp [go_sem]

theorem eq_hit (a b c d e f g h : Int) (W : World) : (Op.equalIn 10000 104 (.agg #[.int .i64 a, .int .i64 b, .int .i64 c, .int .i64 d, .int .i64 e, .int .i64 f, .int .i64 g, .int .i64 h]) (.agg #[.int .i64 a, .int .i64 b, .int .i64 c, .int .i64 d, .int .i64 e, .int .i64 f, .int .i64 g, .int .i64 h])).run Try.prog W = .ok true W := by
  rw [run_equalIn_struct W 9999 104 _ _ (by kernel_rfl) (by kernel_rfl)]
  simp only [Program.fieldsOf, Try.underlying104, Op.eqFields]
  have hv := fun x y z => eq_avec_d 9997 x y z
  simp [go_sem, hv]

set_option maxHeartbeats 8000000 in
set_option maxRecDepth 100000 in
theorem walk (fx fy fz dx dy dz pt a0 a1 a2 a3 a4 a5 a6 a7 a8 a9 a10 a11 a12 a13 a14 a15 a16 a17 a18 a19 a20 a21 a22 a23 near far back : Int) (hb0 : 0 ≤ back) (hb1 : back ≤ 65535) (w : World)  : Calls Try.prog 7 #[.agg #[.int .i64 fx, .int .i64 fy, .int .i64 fz, .int .i64 dx, .int .i64 dy, .int .i64 dz, .int .i64 pt], .agg #[.int .i64 a0, .int .i64 a1, .int .i64 a2, .int .i64 a3, .int .i64 a4, .int .i64 a5, .int .i64 a6, .int .i64 a7, .int .i64 a8, .int .i64 a9, .int .i64 a10, .int .i64 a11, .int .i64 a12, .int .i64 a13, .int .i64 a14, .int .i64 a15, .int .i64 a16, .int .i64 a17, .int .i64 a18, .int .i64 a19, .int .i64 a20, .int .i64 a21, .int .i64 a22, .int .i64 a23], .int .i64 near, .int .i64 far, .int .u16 back] w fun e' w' => e' = .returned (.bool true) ∧ Below w.heap.size w w' := by
  obtain ⟨_, _, _, _, _, _, _, _, _, _, _, _, b0, b1, b2, b3, b4, b5, c, n0, n1, n2, hc, hs, -, -, hT0⟩ := test_ex fx fy fz dx dy dz pt a0 a1 a2 a3 a4 a5 a6 a7 a8 a9 a10 a11 a12 a13 a14 a15 a16 a17 a18 a19 a20 a21 a22 a23
  have HC := Lib.hid hc
  have HS := Lib.hid hs
  have HT := Lib.hid hT0
  have HB0 := Lib.hid hb0
  have HB1 := Lib.hid hb1
  clear hc hs hT0 hb0 hb1
  obtain ⟨ok, hok⟩ : ∃ f, okB b0 b1 b2 b3 b4 b5 fx fy fz dx dy dz = f := ⟨_, rfl⟩
  have HOK := Lib.hid hok
  clear hok
  go_enter Try.func7, Try.ntmps7
  go_upto_region 1 with fail
  have hR := Au.rows2 w (.cells #[.int .i64 fx, .int .i64 fy, .int .i64 fz, .int .i64 dx, .int .i64 dy, .int .i64 dz, .int .i64 pt] 97) (.cells #[.int .i64 a0, .int .i64 a1, .int .i64 a2, .int .i64 a3, .int .i64 a4, .int .i64 a5, .int .i64 a6, .int .i64 a7, .int .i64 a8, .int .i64 a9, .int .i64 a10, .int .i64 a11, .int .i64 a12, .int .i64 a13, .int .i64 a14, .int .i64 a15, .int .i64 a16, .int .i64 a17, .int .i64 a18, .int .i64 a19, .int .i64 a20, .int .i64 a21, .int .i64 a22, .int .i64 a23] 64)
  have HUx := below_n2 w (.cells #[.int .i64 fx, .int .i64 fy, .int .i64 fz, .int .i64 dx, .int .i64 dy, .int .i64 dz, .int .i64 pt] 97) (.cells #[.int .i64 a0, .int .i64 a1, .int .i64 a2, .int .i64 a3, .int .i64 a4, .int .i64 a5, .int .i64 a6, .int .i64 a7, .int .i64 a8, .int .i64 a9, .int .i64 a10, .int .i64 a11, .int .i64 a12, .int .i64 a13, .int .i64 a14, .int .i64 a15, .int .i64 a16, .int .i64 a17, .int .i64 a18, .int .i64 a19, .int .i64 a20, .int .i64 a21, .int .i64 a22, .int .i64 a23] 64)
  obtain ⟨y0, hy0⟩ : ∃ y0, (w.alloc (.cells #[.int .i64 fx, .int .i64 fy, .int .i64 fz, .int .i64 dx, .int .i64 dy, .int .i64 dz, .int .i64 pt] 97)).alloc (.cells #[.int .i64 a0, .int .i64 a1, .int .i64 a2, .int .i64 a3, .int .i64 a4, .int .i64 a5, .int .i64 a6, .int .i64 a7, .int .i64 a8, .int .i64 a9, .int .i64 a10, .int .i64 a11, .int .i64 a12, .int .i64 a13, .int .i64 a14, .int .i64 a15, .int .i64 a16, .int .i64 a17, .int .i64 a18, .int .i64 a19, .int .i64 a20, .int .i64 a21, .int .i64 a22, .int .i64 a23] 64) = y0 := ⟨_, rfl⟩
  rw [hy0] at hR HUx ⊢
  clear hy0
  have HU0 := Lib.hid HUx
  clear HUx
  obtain ⟨hr0_0, hr0_1⟩ := hR
  go_cut [11, 12] (fun s11 s12 wx => ∃ gr gm : Nat, s11 = .pointer (some ⟨gr, 0, none⟩) ∧ s12 = .pointer (some ⟨gm, 0, none⟩) ∧ wx.heap[gr]? = some (.cells #[.int .i64 fx, .int .i64 fy, .int .i64 fz, .int .i64 dx, .int .i64 dy, .int .i64 dz, .int .i64 pt] 101 (0, 0)) ∧ wx.heap[gm]? = some (.cells #[.int .i64 a0, .int .i64 a1, .int .i64 a2, .int .i64 a3, .int .i64 a4, .int .i64 a5, .int .i64 a6, .int .i64 a7, .int .i64 a8, .int .i64 a9, .int .i64 a10, .int .i64 a11, .int .i64 a12, .int .i64 a13, .int .i64 a14, .int .i64 a15, .int .i64 a16, .int .i64 a17, .int .i64 a18, .int .i64 a19, .int .i64 a20, .int .i64 a21, .int .i64 a22, .int .i64 a23] 91 (0, 0)) ∧ Hid (Below w.heap.size w wx))
  case first =>
    refine wp_region_held_drew (S := fun y => y.heap[w.heap.size]? = some (.cells #[.int .i64 fx, .int .i64 fy, .int .i64 fz, .int .i64 dx, .int .i64 dy, .int .i64 dz, .int .i64 pt] 97 (0, 0)) ∧ y.heap[w.heap.size + 1]? = some (.cells #[.int .i64 a0, .int .i64 a1, .int .i64 a2, .int .i64 a3, .int .i64 a4, .int .i64 a5, .int .i64 a6, .int .i64 a7, .int .i64 a8, .int .i64 a9, .int .i64 a10, .int .i64 a11, .int .i64 a12, .int .i64 a13, .int .i64 a14, .int .i64 a15, .int .i64 a16, .int .i64 a17, .int .i64 a18, .int .i64 a19, .int .i64 a20, .int .i64 a21, .int .i64 a22, .int .i64 a23] 64 (0, 0))) (by kernel_rfl) (⟨hr0_0, hr0_1⟩) (fun hS0 => ?_)
    obtain ⟨y1, hy1⟩ : ∃ y, y0.drew = y := ⟨_, rfl⟩
    have HU1 := Lib.hid (show Below w.heap.size w y1 by rw [← hy1]; exact HU0.out.drew)
    have hr1_0 : y1.heap[w.heap.size]? = some (.cells #[.int .i64 fx, .int .i64 fy, .int .i64 fz, .int .i64 dx, .int .i64 dy, .int .i64 dz, .int .i64 pt] 97 (0, 0)) := by rw [← hy1]; exact hr0_0
    have hr1_1 : y1.heap[w.heap.size + 1]? = some (.cells #[.int .i64 a0, .int .i64 a1, .int .i64 a2, .int .i64 a3, .int .i64 a4, .int .i64 a5, .int .i64 a6, .int .i64 a7, .int .i64 a8, .int .i64 a9, .int .i64 a10, .int .i64 a11, .int .i64 a12, .int .i64 a13, .int .i64 a14, .int .i64 a15, .int .i64 a16, .int .i64 a17, .int .i64 a18, .int .i64 a19, .int .i64 a20, .int .i64 a21, .int .i64 a22, .int .i64 a23] 64 (0, 0)) := by rw [← hy1]; exact hr0_1
    rw [hy1] at hS0 ⊢
    clear hy1
    refine wpAnyH_take (i := 0) (v := .agg #[.int .i64 fx, .int .i64 fy, .int .i64 fz, .int .i64 dx, .int .i64 dy, .int .i64 dz, .int .i64 pt]) rfl (by kernel_rfl) (by kernel_rfl) (by kernel_rfl) (fun _ _ _ h => h) (Lr.yieldsIf_load_row (by kernel_rfl) 97 (.tmp 5) rfl (w.heap.size) rfl 97 #[.int .i64 fx, .int .i64 fy, .int .i64 fz, .int .i64 dx, .int .i64 dy, .int .i64 dz, .int .i64 pt] _ (fun yy hh => hh.1) Try.underlying97 rfl (by kernel_rfl)) hS0 ?_
    go_simp
    refine wpAnyH_take (i := 2) (v := .agg #[.int .i64 a0, .int .i64 a1, .int .i64 a2, .int .i64 a3, .int .i64 a4, .int .i64 a5, .int .i64 a6, .int .i64 a7, .int .i64 a8, .int .i64 a9, .int .i64 a10, .int .i64 a11, .int .i64 a12, .int .i64 a13, .int .i64 a14, .int .i64 a15, .int .i64 a16, .int .i64 a17, .int .i64 a18, .int .i64 a19, .int .i64 a20, .int .i64 a21, .int .i64 a22, .int .i64 a23]) rfl (by kernel_rfl) (by kernel_rfl) (by kernel_rfl) (fun _ _ _ h => h) (Lr.yieldsIf_load_row (by kernel_rfl) 64 (.tmp 6) rfl (w.heap.size + 1) rfl 64 #[.int .i64 a0, .int .i64 a1, .int .i64 a2, .int .i64 a3, .int .i64 a4, .int .i64 a5, .int .i64 a6, .int .i64 a7, .int .i64 a8, .int .i64 a9, .int .i64 a10, .int .i64 a11, .int .i64 a12, .int .i64 a13, .int .i64 a14, .int .i64 a15, .int .i64 a16, .int .i64 a17, .int .i64 a18, .int .i64 a19, .int .i64 a20, .int .i64 a21, .int .i64 a22, .int .i64 a23] _ (fun yy hh => hh.2) Try.underlying64 rfl (by kernel_rfl)) hS0 ?_
    go_simp
    refine wpAnyH_ready (rs := [1, 4, 5]) (by kernel_rfl) (by simp) ?_
    refine AllReadyH.cons rfl (fun K hK => ?_) (AllReadyH.cons rfl (fun K hK => ?_) (AllReadyH.cons rfl (fun K hK => ?_) AllReadyH.nil))
    · skip
      go_simp
      go_wp2_with (go_at_call 28; refine (rto_any _ _ _ _ _ _ _ _ ).mono ?_; rintro e y2 ⟨rfl, hb2⟩)
      have hr2_0 := (hb2.block _ (lt_heap hr1_0)).trans hr1_0
      have hr2_1 := (hb2.block _ (lt_heap hr1_1)).trans hr1_1
      have HU2 := Lib.hid (HU1.out.trans (hb2.mono HU1.out.size))
      refine hK.out _ _ (⟨(hb2.block _ (lt_heap hS0.1)).trans hS0.1, (hb2.block _ (lt_heap hS0.2)).trans hS0.2⟩) (fun hS2c => ?_)
      clear hK K
      refine wpAnyH_ready (rs := [3, 4, 5]) (by kernel_rfl) (by simp) ?_
      refine AllReadyH.cons rfl (fun K hK => ?_) (AllReadyH.cons rfl (fun K hK => ?_) (AllReadyH.cons rfl (fun K hK => ?_) AllReadyH.nil))
      · skip
        go_simp
        go_wp2_with (go_at_call 25; refine (lmoving_any _ _ _ _ _ _ _ _ _ _ _ _ _ _ _ _ _ _ _ _ _ _ _ _ _ ).mono ?_; rintro e y3 ⟨rfl, hb3⟩)
        have hr3_0 := (hb3.block _ (lt_heap hr2_0)).trans hr2_0
        have hr3_1 := (hb3.block _ (lt_heap hr2_1)).trans hr2_1
        have HU3 := Lib.hid (HU2.out.trans (hb3.mono HU2.out.size))
        refine hK.out _ _ (⟨(hb3.block _ (lt_heap hS2c.1)).trans hS2c.1, (hb3.block _ (lt_heap hS2c.2)).trans hS2c.2⟩) (fun hS3c => ?_)
        clear hK K
        refine wpAnyH_ready (rs := [4, 5]) (by kernel_rfl) (by simp) ?_
        refine AllReadyH.cons rfl (fun K hK => ?_) (AllReadyH.cons rfl (fun K hK => ?_) AllReadyH.nil)
        · skip
          go_simp
          have hb4 := below_n1 y3 (.cells #[.int .i64 0, .int .i64 0, .int .i64 0, .int .i64 0, .int .i64 0, .int .i64 0, .int .i64 0] 101)
          have hN := heap_alloc_last y3 (.cells #[.int .i64 0, .int .i64 0, .int .i64 0, .int .i64 0, .int .i64 0, .int .i64 0, .int .i64 0] 101)
          obtain ⟨y4, hy4⟩ : ∃ y, y3.alloc (.cells #[.int .i64 0, .int .i64 0, .int .i64 0, .int .i64 0, .int .i64 0, .int .i64 0, .int .i64 0] 101) = y := ⟨_, rfl⟩
          rw [hy4] at hb4 hN ⊢
          clear hy4
          have hl4_0 := lt_heap hr3_0
          have hr4_0 := (hb4.block _ (lt_heap hr3_0)).trans hr3_0
          have hl4_1 := lt_heap hr3_1
          have hr4_1 := (hb4.block _ (lt_heap hr3_1)).trans hr3_1
          have hr4_2 := hN
          clear hN
          have HU4 := Lib.hid (HU3.out.trans (hb4.mono HU3.out.size))
          refine hK.out _ _ (⟨(hb4.block _ (lt_heap hS3c.1)).trans hS3c.1, (hb4.block _ (lt_heap hS3c.2)).trans hS3c.2⟩) (fun hS4a => ?_)
          clear hK K
          refine wpAnyH_ready (rs := [5]) (by kernel_rfl) (by simp) ?_
          refine AllReadyH.cons rfl (fun K hK => ?_) AllReadyH.nil
          go_simp
          have hb5 := below_n1 y4 (.cells #[.int .i64 0, .int .i64 0, .int .i64 0, .int .i64 0, .int .i64 0, .int .i64 0, .int .i64 0, .int .i64 0, .int .i64 0, .int .i64 0, .int .i64 0, .int .i64 0, .int .i64 0, .int .i64 0, .int .i64 0, .int .i64 0, .int .i64 0, .int .i64 0, .int .i64 0, .int .i64 0, .int .i64 0, .int .i64 0, .int .i64 0, .int .i64 0] 91)
          have hN := heap_alloc_last y4 (.cells #[.int .i64 0, .int .i64 0, .int .i64 0, .int .i64 0, .int .i64 0, .int .i64 0, .int .i64 0, .int .i64 0, .int .i64 0, .int .i64 0, .int .i64 0, .int .i64 0, .int .i64 0, .int .i64 0, .int .i64 0, .int .i64 0, .int .i64 0, .int .i64 0, .int .i64 0, .int .i64 0, .int .i64 0, .int .i64 0, .int .i64 0, .int .i64 0] 91)
          obtain ⟨y5, hy5⟩ : ∃ y, y4.alloc (.cells #[.int .i64 0, .int .i64 0, .int .i64 0, .int .i64 0, .int .i64 0, .int .i64 0, .int .i64 0, .int .i64 0, .int .i64 0, .int .i64 0, .int .i64 0, .int .i64 0, .int .i64 0, .int .i64 0, .int .i64 0, .int .i64 0, .int .i64 0, .int .i64 0, .int .i64 0, .int .i64 0, .int .i64 0, .int .i64 0, .int .i64 0, .int .i64 0] 91) = y := ⟨_, rfl⟩
          rw [hy5] at hb5 hN ⊢
          clear hy5
          have hl5_0 := lt_heap hr4_0
          have hr5_0 := (hb5.block _ (lt_heap hr4_0)).trans hr4_0
          have hl5_1 := lt_heap hr4_1
          have hr5_1 := (hb5.block _ (lt_heap hr4_1)).trans hr4_1
          have hl5_2 := lt_heap hr4_2
          have hr5_2 := (hb5.block _ (lt_heap hr4_2)).trans hr4_2
          have hr5_3 := hN
          clear hN
          have HU5 := Lib.hid (HU4.out.trans (hb5.mono HU4.out.size))
          refine hK.out _ _ (⟨(hb5.block _ (lt_heap hS4a.1)).trans hS4a.1, (hb5.block _ (lt_heap hS4a.2)).trans hS4a.2⟩) (fun hS5a => ?_)
          clear hK K
          refine wpAnyH_ready (rs := [6]) (by kernel_rfl) (by simp) ?_
          refine AllReadyH.cons rfl (fun K hK => ?_) AllReadyH.nil
          refine step_store_row rfl 101 (.tmp 11) (.tmp 22) rfl #[.int .i64 0, .int .i64 0, .int .i64 0, .int .i64 0, .int .i64 0, .int .i64 0, .int .i64 0] #[.int .i64 fx, .int .i64 fy, .int .i64 fz, .int .i64 dx, .int .i64 dy, .int .i64 dz, .int .i64 pt] _ 101 hr5_2 rfl (by first | rfl | (go_simp; done) | (go_simp; rfl)) (by kernel_rfl) rfl (by simp [Value.oneCell']) ?_
          have hN := setRow_heap _ (y3.heap.size) _ #[.int .i64 fx, .int .i64 fy, .int .i64 fz, .int .i64 dx, .int .i64 dy, .int .i64 dz, .int .i64 pt] _ _ hr5_2
          have hsz := HU5.out.size
          have HUx := below_setRow (g := y3.heap.size) HU5.out (by first | omega | (simp at *; omega)) #[.int .i64 fx, .int .i64 fy, .int .i64 fz, .int .i64 dx, .int .i64 dy, .int .i64 dz, .int .i64 pt]
          obtain ⟨y6, hy6⟩ : ∃ y, y5.setRow (y3.heap.size) #[.int .i64 fx, .int .i64 fy, .int .i64 fz, .int .i64 dx, .int .i64 dy, .int .i64 dz, .int .i64 pt] = y := ⟨_, rfl⟩
          have hO : ∀ k, k ≠ y3.heap.size → y6.heap[k]? = y5.heap[k]? := fun k hk => by rw [← hy6]; exact setRow_other _ _ _ _ hk
          rw [hy6] at hN HUx ⊢
          clear hy6
          have HU6 := Lib.hid HUx
          clear HUx
          have hr6_0 := (hO _ (by omega)).trans hr5_0
          have hr6_1 := (hO _ (by omega)).trans hr5_1
          have hr6_2 := hN
          have hr6_3 := (hO _ (by omega)).trans hr5_3
          clear hN
          refine hK.out _ _ (⟨(hO _ (by omega)).trans hS5a.1, (hO _ (by omega)).trans hS5a.2⟩) (fun hS6s => ?_)
          clear hK K
          refine wpAnyH_ready (rs := [7]) (by kernel_rfl) (by simp) ?_
          refine AllReadyH.cons rfl (fun K hK => ?_) AllReadyH.nil
          refine step_store_row rfl 91 (.tmp 12) (.tmp 24) rfl #[.int .i64 0, .int .i64 0, .int .i64 0, .int .i64 0, .int .i64 0, .int .i64 0, .int .i64 0, .int .i64 0, .int .i64 0, .int .i64 0, .int .i64 0, .int .i64 0, .int .i64 0, .int .i64 0, .int .i64 0, .int .i64 0, .int .i64 0, .int .i64 0, .int .i64 0, .int .i64 0, .int .i64 0, .int .i64 0, .int .i64 0, .int .i64 0] #[.int .i64 a0, .int .i64 a1, .int .i64 a2, .int .i64 a3, .int .i64 a4, .int .i64 a5, .int .i64 a6, .int .i64 a7, .int .i64 a8, .int .i64 a9, .int .i64 a10, .int .i64 a11, .int .i64 a12, .int .i64 a13, .int .i64 a14, .int .i64 a15, .int .i64 a16, .int .i64 a17, .int .i64 a18, .int .i64 a19, .int .i64 a20, .int .i64 a21, .int .i64 a22, .int .i64 a23] _ 91 hr6_3 rfl (by first | rfl | (go_simp; done) | (go_simp; rfl)) (by kernel_rfl) rfl (by simp [Value.oneCell']) ?_
          have hN := setRow_heap _ (y4.heap.size) _ #[.int .i64 a0, .int .i64 a1, .int .i64 a2, .int .i64 a3, .int .i64 a4, .int .i64 a5, .int .i64 a6, .int .i64 a7, .int .i64 a8, .int .i64 a9, .int .i64 a10, .int .i64 a11, .int .i64 a12, .int .i64 a13, .int .i64 a14, .int .i64 a15, .int .i64 a16, .int .i64 a17, .int .i64 a18, .int .i64 a19, .int .i64 a20, .int .i64 a21, .int .i64 a22, .int .i64 a23] _ _ hr6_3
          have hsz := HU6.out.size
          have HUx := below_setRow (g := y4.heap.size) HU6.out (by first | omega | (simp at *; omega)) #[.int .i64 a0, .int .i64 a1, .int .i64 a2, .int .i64 a3, .int .i64 a4, .int .i64 a5, .int .i64 a6, .int .i64 a7, .int .i64 a8, .int .i64 a9, .int .i64 a10, .int .i64 a11, .int .i64 a12, .int .i64 a13, .int .i64 a14, .int .i64 a15, .int .i64 a16, .int .i64 a17, .int .i64 a18, .int .i64 a19, .int .i64 a20, .int .i64 a21, .int .i64 a22, .int .i64 a23]
          obtain ⟨y7, hy7⟩ : ∃ y, y6.setRow (y4.heap.size) #[.int .i64 a0, .int .i64 a1, .int .i64 a2, .int .i64 a3, .int .i64 a4, .int .i64 a5, .int .i64 a6, .int .i64 a7, .int .i64 a8, .int .i64 a9, .int .i64 a10, .int .i64 a11, .int .i64 a12, .int .i64 a13, .int .i64 a14, .int .i64 a15, .int .i64 a16, .int .i64 a17, .int .i64 a18, .int .i64 a19, .int .i64 a20, .int .i64 a21, .int .i64 a22, .int .i64 a23] = y := ⟨_, rfl⟩
          have hO : ∀ k, k ≠ y4.heap.size → y7.heap[k]? = y6.heap[k]? := fun k hk => by rw [← hy7]; exact setRow_other _ _ _ _ hk
          rw [hy7] at hN HUx ⊢
          clear hy7
          have HU7 := Lib.hid HUx
          clear HUx
          have hr7_0 := (hO _ (by omega)).trans hr6_0
          have hr7_1 := (hO _ (by omega)).trans hr6_1
          have hr7_2 := (hO _ (by omega)).trans hr6_2
          have hr7_3 := hN
          clear hN
          refine hK.out _ _ (⟨(hO _ (by omega)).trans hS6s.1, (hO _ (by omega)).trans hS6s.2⟩) (fun hS7s => ?_)
          clear hK K
          refine wpAnyH_done (by kernel_rfl) ?_ _
          go_wp2_with fail
          go_meet
          exact ⟨_, _, rfl, rfl, hr7_2, hr7_3, HU7⟩
        · skip
          go_simp
          have hb4 := below_n1 y3 (.cells #[.int .i64 0, .int .i64 0, .int .i64 0, .int .i64 0, .int .i64 0, .int .i64 0, .int .i64 0, .int .i64 0, .int .i64 0, .int .i64 0, .int .i64 0, .int .i64 0, .int .i64 0, .int .i64 0, .int .i64 0, .int .i64 0, .int .i64 0, .int .i64 0, .int .i64 0, .int .i64 0, .int .i64 0, .int .i64 0, .int .i64 0, .int .i64 0] 91)
          have hN := heap_alloc_last y3 (.cells #[.int .i64 0, .int .i64 0, .int .i64 0, .int .i64 0, .int .i64 0, .int .i64 0, .int .i64 0, .int .i64 0, .int .i64 0, .int .i64 0, .int .i64 0, .int .i64 0, .int .i64 0, .int .i64 0, .int .i64 0, .int .i64 0, .int .i64 0, .int .i64 0, .int .i64 0, .int .i64 0, .int .i64 0, .int .i64 0, .int .i64 0, .int .i64 0] 91)
          obtain ⟨y4, hy4⟩ : ∃ y, y3.alloc (.cells #[.int .i64 0, .int .i64 0, .int .i64 0, .int .i64 0, .int .i64 0, .int .i64 0, .int .i64 0, .int .i64 0, .int .i64 0, .int .i64 0, .int .i64 0, .int .i64 0, .int .i64 0, .int .i64 0, .int .i64 0, .int .i64 0, .int .i64 0, .int .i64 0, .int .i64 0, .int .i64 0, .int .i64 0, .int .i64 0, .int .i64 0, .int .i64 0] 91) = y := ⟨_, rfl⟩
          rw [hy4] at hb4 hN ⊢
          clear hy4
          have hl4_0 := lt_heap hr3_0
          have hr4_0 := (hb4.block _ (lt_heap hr3_0)).trans hr3_0
          have hl4_1 := lt_heap hr3_1
          have hr4_1 := (hb4.block _ (lt_heap hr3_1)).trans hr3_1
          have hr4_2 := hN
          clear hN
          have HU4 := Lib.hid (HU3.out.trans (hb4.mono HU3.out.size))
          refine hK.out _ _ (⟨(hb4.block _ (lt_heap hS3c.1)).trans hS3c.1, (hb4.block _ (lt_heap hS3c.2)).trans hS3c.2⟩) (fun hS4a => ?_)
          clear hK K
          refine wpAnyH_ready (rs := [4]) (by kernel_rfl) (by simp) ?_
          refine AllReadyH.cons rfl (fun K hK => ?_) AllReadyH.nil
          go_simp
          have hb5 := below_n1 y4 (.cells #[.int .i64 0, .int .i64 0, .int .i64 0, .int .i64 0, .int .i64 0, .int .i64 0, .int .i64 0] 101)
          have hN := heap_alloc_last y4 (.cells #[.int .i64 0, .int .i64 0, .int .i64 0, .int .i64 0, .int .i64 0, .int .i64 0, .int .i64 0] 101)
          obtain ⟨y5, hy5⟩ : ∃ y, y4.alloc (.cells #[.int .i64 0, .int .i64 0, .int .i64 0, .int .i64 0, .int .i64 0, .int .i64 0, .int .i64 0] 101) = y := ⟨_, rfl⟩
          rw [hy5] at hb5 hN ⊢
          clear hy5
          have hl5_0 := lt_heap hr4_0
          have hr5_0 := (hb5.block _ (lt_heap hr4_0)).trans hr4_0
          have hl5_1 := lt_heap hr4_1
          have hr5_1 := (hb5.block _ (lt_heap hr4_1)).trans hr4_1
          have hl5_2 := lt_heap hr4_2
          have hr5_2 := (hb5.block _ (lt_heap hr4_2)).trans hr4_2
          have hr5_3 := hN
          clear hN
          have HU5 := Lib.hid (HU4.out.trans (hb5.mono HU4.out.size))
          refine hK.out _ _ (⟨(hb5.block _ (lt_heap hS4a.1)).trans hS4a.1, (hb5.block _ (lt_heap hS4a.2)).trans hS4a.2⟩) (fun hS5a => ?_)
          clear hK K
          refine wpAnyH_ready (rs := [6]) (by kernel_rfl) (by simp) ?_
          refine AllReadyH.cons rfl (fun K hK => ?_) AllReadyH.nil
          refine step_store_row rfl 101 (.tmp 11) (.tmp 22) rfl #[.int .i64 0, .int .i64 0, .int .i64 0, .int .i64 0, .int .i64 0, .int .i64 0, .int .i64 0] #[.int .i64 fx, .int .i64 fy, .int .i64 fz, .int .i64 dx, .int .i64 dy, .int .i64 dz, .int .i64 pt] _ 101 hr5_3 rfl (by first | rfl | (go_simp; done) | (go_simp; rfl)) (by kernel_rfl) rfl (by simp [Value.oneCell']) ?_
          have hN := setRow_heap _ (y4.heap.size) _ #[.int .i64 fx, .int .i64 fy, .int .i64 fz, .int .i64 dx, .int .i64 dy, .int .i64 dz, .int .i64 pt] _ _ hr5_3
          have hsz := HU5.out.size
          have HUx := below_setRow (g := y4.heap.size) HU5.out (by first | omega | (simp at *; omega)) #[.int .i64 fx, .int .i64 fy, .int .i64 fz, .int .i64 dx, .int .i64 dy, .int .i64 dz, .int .i64 pt]
          obtain ⟨y6, hy6⟩ : ∃ y, y5.setRow (y4.heap.size) #[.int .i64 fx, .int .i64 fy, .int .i64 fz, .int .i64 dx, .int .i64 dy, .int .i64 dz, .int .i64 pt] = y := ⟨_, rfl⟩
          have hO : ∀ k, k ≠ y4.heap.size → y6.heap[k]? = y5.heap[k]? := fun k hk => by rw [← hy6]; exact setRow_other _ _ _ _ hk
          rw [hy6] at hN HUx ⊢
          clear hy6
          have HU6 := Lib.hid HUx
          clear HUx
          have hr6_0 := (hO _ (by omega)).trans hr5_0
          have hr6_1 := (hO _ (by omega)).trans hr5_1
          have hr6_2 := (hO _ (by omega)).trans hr5_2
          have hr6_3 := hN
          clear hN
          refine hK.out _ _ (⟨(hO _ (by omega)).trans hS5a.1, (hO _ (by omega)).trans hS5a.2⟩) (fun hS6s => ?_)
          clear hK K
          refine wpAnyH_ready (rs := [7]) (by kernel_rfl) (by simp) ?_
          refine AllReadyH.cons rfl (fun K hK => ?_) AllReadyH.nil
          refine step_store_row rfl 91 (.tmp 12) (.tmp 24) rfl #[.int .i64 0, .int .i64 0, .int .i64 0, .int .i64 0, .int .i64 0, .int .i64 0, .int .i64 0, .int .i64 0, .int .i64 0, .int .i64 0, .int .i64 0, .int .i64 0, .int .i64 0, .int .i64 0, .int .i64 0, .int .i64 0, .int .i64 0, .int .i64 0, .int .i64 0, .int .i64 0, .int .i64 0, .int .i64 0, .int .i64 0, .int .i64 0] #[.int .i64 a0, .int .i64 a1, .int .i64 a2, .int .i64 a3, .int .i64 a4, .int .i64 a5, .int .i64 a6, .int .i64 a7, .int .i64 a8, .int .i64 a9, .int .i64 a10, .int .i64 a11, .int .i64 a12, .int .i64 a13, .int .i64 a14, .int .i64 a15, .int .i64 a16, .int .i64 a17, .int .i64 a18, .int .i64 a19, .int .i64 a20, .int .i64 a21, .int .i64 a22, .int .i64 a23] _ 91 hr6_2 rfl (by first | rfl | (go_simp; done) | (go_simp; rfl)) (by kernel_rfl) rfl (by simp [Value.oneCell']) ?_
          have hN := setRow_heap _ (y3.heap.size) _ #[.int .i64 a0, .int .i64 a1, .int .i64 a2, .int .i64 a3, .int .i64 a4, .int .i64 a5, .int .i64 a6, .int .i64 a7, .int .i64 a8, .int .i64 a9, .int .i64 a10, .int .i64 a11, .int .i64 a12, .int .i64 a13, .int .i64 a14, .int .i64 a15, .int .i64 a16, .int .i64 a17, .int .i64 a18, .int .i64 a19, .int .i64 a20, .int .i64 a21, .int .i64 a22, .int .i64 a23] _ _ hr6_2
          have hsz := HU6.out.size
          have HUx := below_setRow (g := y3.heap.size) HU6.out (by first | omega | (simp at *; omega)) #[.int .i64 a0, .int .i64 a1, .int .i64 a2, .int .i64 a3, .int .i64 a4, .int .i64 a5, .int .i64 a6, .int .i64 a7, .int .i64 a8, .int .i64 a9, .int .i64 a10, .int .i64 a11, .int .i64 a12, .int .i64 a13, .int .i64 a14, .int .i64 a15, .int .i64 a16, .int .i64 a17, .int .i64 a18, .int .i64 a19, .int .i64 a20, .int .i64 a21, .int .i64 a22, .int .i64 a23]
          obtain ⟨y7, hy7⟩ : ∃ y, y6.setRow (y3.heap.size) #[.int .i64 a0, .int .i64 a1, .int .i64 a2, .int .i64 a3, .int .i64 a4, .int .i64 a5, .int .i64 a6, .int .i64 a7, .int .i64 a8, .int .i64 a9, .int .i64 a10, .int .i64 a11, .int .i64 a12, .int .i64 a13, .int .i64 a14, .int .i64 a15, .int .i64 a16, .int .i64 a17, .int .i64 a18, .int .i64 a19, .int .i64 a20, .int .i64 a21, .int .i64 a22, .int .i64 a23] = y := ⟨_, rfl⟩
          have hO : ∀ k, k ≠ y3.heap.size → y7.heap[k]? = y6.heap[k]? := fun k hk => by rw [← hy7]; exact setRow_other _ _ _ _ hk
          rw [hy7] at hN HUx ⊢
          clear hy7
          have HU7 := Lib.hid HUx
          clear HUx
          have hr7_0 := (hO _ (by omega)).trans hr6_0
          have hr7_1 := (hO _ (by omega)).trans hr6_1
          have hr7_2 := hN
          have hr7_3 := (hO _ (by omega)).trans hr6_3
          clear hN
          refine hK.out _ _ (⟨(hO _ (by omega)).trans hS6s.1, (hO _ (by omega)).trans hS6s.2⟩) (fun hS7s => ?_)
          clear hK K
          refine wpAnyH_done (by kernel_rfl) ?_ _
          go_wp2_with fail
          go_meet
          exact ⟨_, _, rfl, rfl, hr7_3, hr7_2, HU7⟩
      · skip
        go_simp
        have hb3 := below_n1 y2 (.cells #[.int .i64 0, .int .i64 0, .int .i64 0, .int .i64 0, .int .i64 0, .int .i64 0, .int .i64 0] 101)
        have hN := heap_alloc_last y2 (.cells #[.int .i64 0, .int .i64 0, .int .i64 0, .int .i64 0, .int .i64 0, .int .i64 0, .int .i64 0] 101)
        obtain ⟨y3, hy3⟩ : ∃ y, y2.alloc (.cells #[.int .i64 0, .int .i64 0, .int .i64 0, .int .i64 0, .int .i64 0, .int .i64 0, .int .i64 0] 101) = y := ⟨_, rfl⟩
        rw [hy3] at hb3 hN ⊢
        clear hy3
        have hl3_0 := lt_heap hr2_0
        have hr3_0 := (hb3.block _ (lt_heap hr2_0)).trans hr2_0
        have hl3_1 := lt_heap hr2_1
        have hr3_1 := (hb3.block _ (lt_heap hr2_1)).trans hr2_1
        have hr3_2 := hN
        clear hN
        have HU3 := Lib.hid (HU2.out.trans (hb3.mono HU2.out.size))
        refine hK.out _ _ (⟨(hb3.block _ (lt_heap hS2c.1)).trans hS2c.1, (hb3.block _ (lt_heap hS2c.2)).trans hS2c.2⟩) (fun hS3a => ?_)
        clear hK K
        refine wpAnyH_ready (rs := [3, 5]) (by kernel_rfl) (by simp) ?_
        refine AllReadyH.cons rfl (fun K hK => ?_) (AllReadyH.cons rfl (fun K hK => ?_) AllReadyH.nil)
        · skip
          go_simp
          go_wp2_with (go_at_call 25; refine (lmoving_any _ _ _ _ _ _ _ _ _ _ _ _ _ _ _ _ _ _ _ _ _ _ _ _ _ ).mono ?_; rintro e y4 ⟨rfl, hb4⟩)
          have hr4_0 := (hb4.block _ (lt_heap hr3_0)).trans hr3_0
          have hr4_1 := (hb4.block _ (lt_heap hr3_1)).trans hr3_1
          have hr4_2 := (hb4.block _ (lt_heap hr3_2)).trans hr3_2
          have HU4 := Lib.hid (HU3.out.trans (hb4.mono HU3.out.size))
          refine hK.out _ _ (⟨(hb4.block _ (lt_heap hS3a.1)).trans hS3a.1, (hb4.block _ (lt_heap hS3a.2)).trans hS3a.2⟩) (fun hS4c => ?_)
          clear hK K
          refine wpAnyH_ready (rs := [5]) (by kernel_rfl) (by simp) ?_
          refine AllReadyH.cons rfl (fun K hK => ?_) AllReadyH.nil
          go_simp
          have hb5 := below_n1 y4 (.cells #[.int .i64 0, .int .i64 0, .int .i64 0, .int .i64 0, .int .i64 0, .int .i64 0, .int .i64 0, .int .i64 0, .int .i64 0, .int .i64 0, .int .i64 0, .int .i64 0, .int .i64 0, .int .i64 0, .int .i64 0, .int .i64 0, .int .i64 0, .int .i64 0, .int .i64 0, .int .i64 0, .int .i64 0, .int .i64 0, .int .i64 0, .int .i64 0] 91)
          have hN := heap_alloc_last y4 (.cells #[.int .i64 0, .int .i64 0, .int .i64 0, .int .i64 0, .int .i64 0, .int .i64 0, .int .i64 0, .int .i64 0, .int .i64 0, .int .i64 0, .int .i64 0, .int .i64 0, .int .i64 0, .int .i64 0, .int .i64 0, .int .i64 0, .int .i64 0, .int .i64 0, .int .i64 0, .int .i64 0, .int .i64 0, .int .i64 0, .int .i64 0, .int .i64 0] 91)
          obtain ⟨y5, hy5⟩ : ∃ y, y4.alloc (.cells #[.int .i64 0, .int .i64 0, .int .i64 0, .int .i64 0, .int .i64 0, .int .i64 0, .int .i64 0, .int .i64 0, .int .i64 0, .int .i64 0, .int .i64 0, .int .i64 0, .int .i64 0, .int .i64 0, .int .i64 0, .int .i64 0, .int .i64 0, .int .i64 0, .int .i64 0, .int .i64 0, .int .i64 0, .int .i64 0, .int .i64 0, .int .i64 0] 91) = y := ⟨_, rfl⟩
          rw [hy5] at hb5 hN ⊢
          clear hy5
          have hl5_0 := lt_heap hr4_0
          have hr5_0 := (hb5.block _ (lt_heap hr4_0)).trans hr4_0
          have hl5_1 := lt_heap hr4_1
          have hr5_1 := (hb5.block _ (lt_heap hr4_1)).trans hr4_1
          have hl5_2 := lt_heap hr4_2
          have hr5_2 := (hb5.block _ (lt_heap hr4_2)).trans hr4_2
          have hr5_3 := hN
          clear hN
          have HU5 := Lib.hid (HU4.out.trans (hb5.mono HU4.out.size))
          refine hK.out _ _ (⟨(hb5.block _ (lt_heap hS4c.1)).trans hS4c.1, (hb5.block _ (lt_heap hS4c.2)).trans hS4c.2⟩) (fun hS5a => ?_)
          clear hK K
          refine wpAnyH_ready (rs := [6]) (by kernel_rfl) (by simp) ?_
          refine AllReadyH.cons rfl (fun K hK => ?_) AllReadyH.nil
          refine step_store_row rfl 101 (.tmp 11) (.tmp 22) rfl #[.int .i64 0, .int .i64 0, .int .i64 0, .int .i64 0, .int .i64 0, .int .i64 0, .int .i64 0] #[.int .i64 fx, .int .i64 fy, .int .i64 fz, .int .i64 dx, .int .i64 dy, .int .i64 dz, .int .i64 pt] _ 101 hr5_2 rfl (by first | rfl | (go_simp; done) | (go_simp; rfl)) (by kernel_rfl) rfl (by simp [Value.oneCell']) ?_
          have hN := setRow_heap _ (y2.heap.size) _ #[.int .i64 fx, .int .i64 fy, .int .i64 fz, .int .i64 dx, .int .i64 dy, .int .i64 dz, .int .i64 pt] _ _ hr5_2
          have hsz := HU5.out.size
          have HUx := below_setRow (g := y2.heap.size) HU5.out (by first | omega | (simp at *; omega)) #[.int .i64 fx, .int .i64 fy, .int .i64 fz, .int .i64 dx, .int .i64 dy, .int .i64 dz, .int .i64 pt]
          obtain ⟨y6, hy6⟩ : ∃ y, y5.setRow (y2.heap.size) #[.int .i64 fx, .int .i64 fy, .int .i64 fz, .int .i64 dx, .int .i64 dy, .int .i64 dz, .int .i64 pt] = y := ⟨_, rfl⟩
          have hO : ∀ k, k ≠ y2.heap.size → y6.heap[k]? = y5.heap[k]? := fun k hk => by rw [← hy6]; exact setRow_other _ _ _ _ hk
          rw [hy6] at hN HUx ⊢
          clear hy6
          have HU6 := Lib.hid HUx
          clear HUx
          have hr6_0 := (hO _ (by omega)).trans hr5_0
          have hr6_1 := (hO _ (by omega)).trans hr5_1
          have hr6_2 := hN
          have hr6_3 := (hO _ (by omega)).trans hr5_3
          clear hN
          refine hK.out _ _ (⟨(hO _ (by omega)).trans hS5a.1, (hO _ (by omega)).trans hS5a.2⟩) (fun hS6s => ?_)
          clear hK K
          refine wpAnyH_ready (rs := [7]) (by kernel_rfl) (by simp) ?_
          refine AllReadyH.cons rfl (fun K hK => ?_) AllReadyH.nil
          refine step_store_row rfl 91 (.tmp 12) (.tmp 24) rfl #[.int .i64 0, .int .i64 0, .int .i64 0, .int .i64 0, .int .i64 0, .int .i64 0, .int .i64 0, .int .i64 0, .int .i64 0, .int .i64 0, .int .i64 0, .int .i64 0, .int .i64 0, .int .i64 0, .int .i64 0, .int .i64 0, .int .i64 0, .int .i64 0, .int .i64 0, .int .i64 0, .int .i64 0, .int .i64 0, .int .i64 0, .int .i64 0] #[.int .i64 a0, .int .i64 a1, .int .i64 a2, .int .i64 a3, .int .i64 a4, .int .i64 a5, .int .i64 a6, .int .i64 a7, .int .i64 a8, .int .i64 a9, .int .i64 a10, .int .i64 a11, .int .i64 a12, .int .i64 a13, .int .i64 a14, .int .i64 a15, .int .i64 a16, .int .i64 a17, .int .i64 a18, .int .i64 a19, .int .i64 a20, .int .i64 a21, .int .i64 a22, .int .i64 a23] _ 91 hr6_3 rfl (by first | rfl | (go_simp; done) | (go_simp; rfl)) (by kernel_rfl) rfl (by simp [Value.oneCell']) ?_
          have hN := setRow_heap _ (y4.heap.size) _ #[.int .i64 a0, .int .i64 a1, .int .i64 a2, .int .i64 a3, .int .i64 a4, .int .i64 a5, .int .i64 a6, .int .i64 a7, .int .i64 a8, .int .i64 a9, .int .i64 a10, .int .i64 a11, .int .i64 a12, .int .i64 a13, .int .i64 a14, .int .i64 a15, .int .i64 a16, .int .i64 a17, .int .i64 a18, .int .i64 a19, .int .i64 a20, .int .i64 a21, .int .i64 a22, .int .i64 a23] _ _ hr6_3
          have hsz := HU6.out.size
          have HUx := below_setRow (g := y4.heap.size) HU6.out (by first | omega | (simp at *; omega)) #[.int .i64 a0, .int .i64 a1, .int .i64 a2, .int .i64 a3, .int .i64 a4, .int .i64 a5, .int .i64 a6, .int .i64 a7, .int .i64 a8, .int .i64 a9, .int .i64 a10, .int .i64 a11, .int .i64 a12, .int .i64 a13, .int .i64 a14, .int .i64 a15, .int .i64 a16, .int .i64 a17, .int .i64 a18, .int .i64 a19, .int .i64 a20, .int .i64 a21, .int .i64 a22, .int .i64 a23]
          obtain ⟨y7, hy7⟩ : ∃ y, y6.setRow (y4.heap.size) #[.int .i64 a0, .int .i64 a1, .int .i64 a2, .int .i64 a3, .int .i64 a4, .int .i64 a5, .int .i64 a6, .int .i64 a7, .int .i64 a8, .int .i64 a9, .int .i64 a10, .int .i64 a11, .int .i64 a12, .int .i64 a13, .int .i64 a14, .int .i64 a15, .int .i64 a16, .int .i64 a17, .int .i64 a18, .int .i64 a19, .int .i64 a20, .int .i64 a21, .int .i64 a22, .int .i64 a23] = y := ⟨_, rfl⟩
          have hO : ∀ k, k ≠ y4.heap.size → y7.heap[k]? = y6.heap[k]? := fun k hk => by rw [← hy7]; exact setRow_other _ _ _ _ hk
          rw [hy7] at hN HUx ⊢
          clear hy7
          have HU7 := Lib.hid HUx
          clear HUx
          have hr7_0 := (hO _ (by omega)).trans hr6_0
          have hr7_1 := (hO _ (by omega)).trans hr6_1
          have hr7_2 := (hO _ (by omega)).trans hr6_2
          have hr7_3 := hN
          clear hN
          refine hK.out _ _ (⟨(hO _ (by omega)).trans hS6s.1, (hO _ (by omega)).trans hS6s.2⟩) (fun hS7s => ?_)
          clear hK K
          refine wpAnyH_done (by kernel_rfl) ?_ _
          go_wp2_with fail
          go_meet
          exact ⟨_, _, rfl, rfl, hr7_2, hr7_3, HU7⟩
        · skip
          go_simp
          have hb4 := below_n1 y3 (.cells #[.int .i64 0, .int .i64 0, .int .i64 0, .int .i64 0, .int .i64 0, .int .i64 0, .int .i64 0, .int .i64 0, .int .i64 0, .int .i64 0, .int .i64 0, .int .i64 0, .int .i64 0, .int .i64 0, .int .i64 0, .int .i64 0, .int .i64 0, .int .i64 0, .int .i64 0, .int .i64 0, .int .i64 0, .int .i64 0, .int .i64 0, .int .i64 0] 91)
          have hN := heap_alloc_last y3 (.cells #[.int .i64 0, .int .i64 0, .int .i64 0, .int .i64 0, .int .i64 0, .int .i64 0, .int .i64 0, .int .i64 0, .int .i64 0, .int .i64 0, .int .i64 0, .int .i64 0, .int .i64 0, .int .i64 0, .int .i64 0, .int .i64 0, .int .i64 0, .int .i64 0, .int .i64 0, .int .i64 0, .int .i64 0, .int .i64 0, .int .i64 0, .int .i64 0] 91)
          obtain ⟨y4, hy4⟩ : ∃ y, y3.alloc (.cells #[.int .i64 0, .int .i64 0, .int .i64 0, .int .i64 0, .int .i64 0, .int .i64 0, .int .i64 0, .int .i64 0, .int .i64 0, .int .i64 0, .int .i64 0, .int .i64 0, .int .i64 0, .int .i64 0, .int .i64 0, .int .i64 0, .int .i64 0, .int .i64 0, .int .i64 0, .int .i64 0, .int .i64 0, .int .i64 0, .int .i64 0, .int .i64 0] 91) = y := ⟨_, rfl⟩
          rw [hy4] at hb4 hN ⊢
          clear hy4
          have hl4_0 := lt_heap hr3_0
          have hr4_0 := (hb4.block _ (lt_heap hr3_0)).trans hr3_0
          have hl4_1 := lt_heap hr3_1
          have hr4_1 := (hb4.block _ (lt_heap hr3_1)).trans hr3_1
          have hl4_2 := lt_heap hr3_2
          have hr4_2 := (hb4.block _ (lt_heap hr3_2)).trans hr3_2
          have hr4_3 := hN
          clear hN
          have HU4 := Lib.hid (HU3.out.trans (hb4.mono HU3.out.size))
          refine hK.out _ _ (⟨(hb4.block _ (lt_heap hS3a.1)).trans hS3a.1, (hb4.block _ (lt_heap hS3a.2)).trans hS3a.2⟩) (fun hS4a => ?_)
          clear hK K
          refine wpAnyH_ready (rs := [3]) (by kernel_rfl) (by simp) ?_
          refine AllReadyH.cons rfl (fun K hK => ?_) AllReadyH.nil
          go_simp
          go_wp2_with (go_at_call 25; refine (lmoving_any _ _ _ _ _ _ _ _ _ _ _ _ _ _ _ _ _ _ _ _ _ _ _ _ _ ).mono ?_; rintro e y5 ⟨rfl, hb5⟩)
          have hr5_0 := (hb5.block _ (lt_heap hr4_0)).trans hr4_0
          have hr5_1 := (hb5.block _ (lt_heap hr4_1)).trans hr4_1
          have hr5_2 := (hb5.block _ (lt_heap hr4_2)).trans hr4_2
          have hr5_3 := (hb5.block _ (lt_heap hr4_3)).trans hr4_3
          have HU5 := Lib.hid (HU4.out.trans (hb5.mono HU4.out.size))
          refine hK.out _ _ (⟨(hb5.block _ (lt_heap hS4a.1)).trans hS4a.1, (hb5.block _ (lt_heap hS4a.2)).trans hS4a.2⟩) (fun hS5c => ?_)
          clear hK K
          refine wpAnyH_ready (rs := [6]) (by kernel_rfl) (by simp) ?_
          refine AllReadyH.cons rfl (fun K hK => ?_) AllReadyH.nil
          refine step_store_row rfl 101 (.tmp 11) (.tmp 22) rfl #[.int .i64 0, .int .i64 0, .int .i64 0, .int .i64 0, .int .i64 0, .int .i64 0, .int .i64 0] #[.int .i64 fx, .int .i64 fy, .int .i64 fz, .int .i64 dx, .int .i64 dy, .int .i64 dz, .int .i64 pt] _ 101 hr5_2 rfl (by first | rfl | (go_simp; done) | (go_simp; rfl)) (by kernel_rfl) rfl (by simp [Value.oneCell']) ?_
          have hN := setRow_heap _ (y2.heap.size) _ #[.int .i64 fx, .int .i64 fy, .int .i64 fz, .int .i64 dx, .int .i64 dy, .int .i64 dz, .int .i64 pt] _ _ hr5_2
          have hsz := HU5.out.size
          have HUx := below_setRow (g := y2.heap.size) HU5.out (by first | omega | (simp at *; omega)) #[.int .i64 fx, .int .i64 fy, .int .i64 fz, .int .i64 dx, .int .i64 dy, .int .i64 dz, .int .i64 pt]
          obtain ⟨y6, hy6⟩ : ∃ y, y5.setRow (y2.heap.size) #[.int .i64 fx, .int .i64 fy, .int .i64 fz, .int .i64 dx, .int .i64 dy, .int .i64 dz, .int .i64 pt] = y := ⟨_, rfl⟩
          have hO : ∀ k, k ≠ y2.heap.size → y6.heap[k]? = y5.heap[k]? := fun k hk => by rw [← hy6]; exact setRow_other _ _ _ _ hk
          rw [hy6] at hN HUx ⊢
          clear hy6
          have HU6 := Lib.hid HUx
          clear HUx
          have hr6_0 := (hO _ (by omega)).trans hr5_0
          have hr6_1 := (hO _ (by omega)).trans hr5_1
          have hr6_2 := hN
          have hr6_3 := (hO _ (by omega)).trans hr5_3
          clear hN
          refine hK.out _ _ (⟨(hO _ (by omega)).trans hS5c.1, (hO _ (by omega)).trans hS5c.2⟩) (fun hS6s => ?_)
          clear hK K
          refine wpAnyH_ready (rs := [7]) (by kernel_rfl) (by simp) ?_
          refine AllReadyH.cons rfl (fun K hK => ?_) AllReadyH.nil
          refine step_store_row rfl 91 (.tmp 12) (.tmp 24) rfl #[.int .i64 0, .int .i64 0, .int .i64 0, .int .i64 0, .int .i64 0, .int .i64 0, .int .i64 0, .int .i64 0, .int .i64 0, .int .i64 0, .int .i64 0, .int .i64 0, .int .i64 0, .int .i64 0, .int .i64 0, .int .i64 0, .int .i64 0, .int .i64 0, .int .i64 0, .int .i64 0, .int .i64 0, .int .i64 0, .int .i64 0, .int .i64 0] #[.int .i64 a0, .int .i64 a1, .int .i64 a2, .int .i64 a3, .int .i64 a4, .int .i64 a5, .int .i64 a6, .int .i64 a7, .int .i64 a8, .int .i64 a9, .int .i64 a10, .int .i64 a11, .int .i64 a12, .int .i64 a13, .int .i64 a14, .int .i64 a15, .int .i64 a16, .int .i64 a17, .int .i64 a18, .int .i64 a19, .int .i64 a20, .int .i64 a21, .int .i64 a22, .int .i64 a23] _ 91 hr6_3 rfl (by first | rfl | (go_simp; done) | (go_simp; rfl)) (by kernel_rfl) rfl (by simp [Value.oneCell']) ?_
          have hN := setRow_heap _ (y3.heap.size) _ #[.int .i64 a0, .int .i64 a1, .int .i64 a2, .int .i64 a3, .int .i64 a4, .int .i64 a5, .int .i64 a6, .int .i64 a7, .int .i64 a8, .int .i64 a9, .int .i64 a10, .int .i64 a11, .int .i64 a12, .int .i64 a13, .int .i64 a14, .int .i64 a15, .int .i64 a16, .int .i64 a17, .int .i64 a18, .int .i64 a19, .int .i64 a20, .int .i64 a21, .int .i64 a22, .int .i64 a23] _ _ hr6_3
          have hsz := HU6.out.size
          have HUx := below_setRow (g := y3.heap.size) HU6.out (by first | omega | (simp at *; omega)) #[.int .i64 a0, .int .i64 a1, .int .i64 a2, .int .i64 a3, .int .i64 a4, .int .i64 a5, .int .i64 a6, .int .i64 a7, .int .i64 a8, .int .i64 a9, .int .i64 a10, .int .i64 a11, .int .i64 a12, .int .i64 a13, .int .i64 a14, .int .i64 a15, .int .i64 a16, .int .i64 a17, .int .i64 a18, .int .i64 a19, .int .i64 a20, .int .i64 a21, .int .i64 a22, .int .i64 a23]
          obtain ⟨y7, hy7⟩ : ∃ y, y6.setRow (y3.heap.size) #[.int .i64 a0, .int .i64 a1, .int .i64 a2, .int .i64 a3, .int .i64 a4, .int .i64 a5, .int .i64 a6, .int .i64 a7, .int .i64 a8, .int .i64 a9, .int .i64 a10, .int .i64 a11, .int .i64 a12, .int .i64 a13, .int .i64 a14, .int .i64 a15, .int .i64 a16, .int .i64 a17, .int .i64 a18, .int .i64 a19, .int .i64 a20, .int .i64 a21, .int .i64 a22, .int .i64 a23] = y := ⟨_, rfl⟩
          have hO : ∀ k, k ≠ y3.heap.size → y7.heap[k]? = y6.heap[k]? := fun k hk => by rw [← hy7]; exact setRow_other _ _ _ _ hk
          rw [hy7] at hN HUx ⊢
          clear hy7
          have HU7 := Lib.hid HUx
          clear HUx
          have hr7_0 := (hO _ (by omega)).trans hr6_0
          have hr7_1 := (hO _ (by omega)).trans hr6_1
          have hr7_2 := (hO _ (by omega)).trans hr6_2
          have hr7_3 := hN
          clear hN
          refine hK.out _ _ (⟨(hO _ (by omega)).trans hS6s.1, (hO _ (by omega)).trans hS6s.2⟩) (fun hS7s => ?_)
          clear hK K
          refine wpAnyH_done (by kernel_rfl) ?_ _
          go_wp2_with fail
          go_meet
          exact ⟨_, _, rfl, rfl, hr7_2, hr7_3, HU7⟩
      · skip
        go_simp
        have hb3 := below_n1 y2 (.cells #[.int .i64 0, .int .i64 0, .int .i64 0, .int .i64 0, .int .i64 0, .int .i64 0, .int .i64 0, .int .i64 0, .int .i64 0, .int .i64 0, .int .i64 0, .int .i64 0, .int .i64 0, .int .i64 0, .int .i64 0, .int .i64 0, .int .i64 0, .int .i64 0, .int .i64 0, .int .i64 0, .int .i64 0, .int .i64 0, .int .i64 0, .int .i64 0] 91)
        have hN := heap_alloc_last y2 (.cells #[.int .i64 0, .int .i64 0, .int .i64 0, .int .i64 0, .int .i64 0, .int .i64 0, .int .i64 0, .int .i64 0, .int .i64 0, .int .i64 0, .int .i64 0, .int .i64 0, .int .i64 0, .int .i64 0, .int .i64 0, .int .i64 0, .int .i64 0, .int .i64 0, .int .i64 0, .int .i64 0, .int .i64 0, .int .i64 0, .int .i64 0, .int .i64 0] 91)
        obtain ⟨y3, hy3⟩ : ∃ y, y2.alloc (.cells #[.int .i64 0, .int .i64 0, .int .i64 0, .int .i64 0, .int .i64 0, .int .i64 0, .int .i64 0, .int .i64 0, .int .i64 0, .int .i64 0, .int .i64 0, .int .i64 0, .int .i64 0, .int .i64 0, .int .i64 0, .int .i64 0, .int .i64 0, .int .i64 0, .int .i64 0, .int .i64 0, .int .i64 0, .int .i64 0, .int .i64 0, .int .i64 0] 91) = y := ⟨_, rfl⟩
        rw [hy3] at hb3 hN ⊢
        clear hy3
        have hl3_0 := lt_heap hr2_0
        have hr3_0 := (hb3.block _ (lt_heap hr2_0)).trans hr2_0
        have hl3_1 := lt_heap hr2_1
        have hr3_1 := (hb3.block _ (lt_heap hr2_1)).trans hr2_1
        have hr3_2 := hN
        clear hN
        have HU3 := Lib.hid (HU2.out.trans (hb3.mono HU2.out.size))
        refine hK.out _ _ (⟨(hb3.block _ (lt_heap hS2c.1)).trans hS2c.1, (hb3.block _ (lt_heap hS2c.2)).trans hS2c.2⟩) (fun hS3a => ?_)
        clear hK K
        refine wpAnyH_ready (rs := [3, 4]) (by kernel_rfl) (by simp) ?_
        refine AllReadyH.cons rfl (fun K hK => ?_) (AllReadyH.cons rfl (fun K hK => ?_) AllReadyH.nil)
        · skip
          go_simp
          go_wp2_with (go_at_call 25; refine (lmoving_any _ _ _ _ _ _ _ _ _ _ _ _ _ _ _ _ _ _ _ _ _ _ _ _ _ ).mono ?_; rintro e y4 ⟨rfl, hb4⟩)
          have hr4_0 := (hb4.block _ (lt_heap hr3_0)).trans hr3_0
          have hr4_1 := (hb4.block _ (lt_heap hr3_1)).trans hr3_1
          have hr4_2 := (hb4.block _ (lt_heap hr3_2)).trans hr3_2
          have HU4 := Lib.hid (HU3.out.trans (hb4.mono HU3.out.size))
          refine hK.out _ _ (⟨(hb4.block _ (lt_heap hS3a.1)).trans hS3a.1, (hb4.block _ (lt_heap hS3a.2)).trans hS3a.2⟩) (fun hS4c => ?_)
          clear hK K
          refine wpAnyH_ready (rs := [4]) (by kernel_rfl) (by simp) ?_
          refine AllReadyH.cons rfl (fun K hK => ?_) AllReadyH.nil
          go_simp
          have hb5 := below_n1 y4 (.cells #[.int .i64 0, .int .i64 0, .int .i64 0, .int .i64 0, .int .i64 0, .int .i64 0, .int .i64 0] 101)
          have hN := heap_alloc_last y4 (.cells #[.int .i64 0, .int .i64 0, .int .i64 0, .int .i64 0, .int .i64 0, .int .i64 0, .int .i64 0] 101)
          obtain ⟨y5, hy5⟩ : ∃ y, y4.alloc (.cells #[.int .i64 0, .int .i64 0, .int .i64 0, .int .i64 0, .int .i64 0, .int .i64 0, .int .i64 0] 101) = y := ⟨_, rfl⟩
          rw [hy5] at hb5 hN ⊢
          clear hy5
          have hl5_0 := lt_heap hr4_0
          have hr5_0 := (hb5.block _ (lt_heap hr4_0)).trans hr4_0
          have hl5_1 := lt_heap hr4_1
          have hr5_1 := (hb5.block _ (lt_heap hr4_1)).trans hr4_1
          have hl5_2 := lt_heap hr4_2
          have hr5_2 := (hb5.block _ (lt_heap hr4_2)).trans hr4_2
          have hr5_3 := hN
          clear hN
          have HU5 := Lib.hid (HU4.out.trans (hb5.mono HU4.out.size))
          refine hK.out _ _ (⟨(hb5.block _ (lt_heap hS4c.1)).trans hS4c.1, (hb5.block _ (lt_heap hS4c.2)).trans hS4c.2⟩) (fun hS5a => ?_)
          clear hK K
          refine wpAnyH_ready (rs := [6]) (by kernel_rfl) (by simp) ?_
          refine AllReadyH.cons rfl (fun K hK => ?_) AllReadyH.nil
          refine step_store_row rfl 101 (.tmp 11) (.tmp 22) rfl #[.int .i64 0, .int .i64 0, .int .i64 0, .int .i64 0, .int .i64 0, .int .i64 0, .int .i64 0] #[.int .i64 fx, .int .i64 fy, .int .i64 fz, .int .i64 dx, .int .i64 dy, .int .i64 dz, .int .i64 pt] _ 101 hr5_3 rfl (by first | rfl | (go_simp; done) | (go_simp; rfl)) (by kernel_rfl) rfl (by simp [Value.oneCell']) ?_
          have hN := setRow_heap _ (y4.heap.size) _ #[.int .i64 fx, .int .i64 fy, .int .i64 fz, .int .i64 dx, .int .i64 dy, .int .i64 dz, .int .i64 pt] _ _ hr5_3
          have hsz := HU5.out.size
          have HUx := below_setRow (g := y4.heap.size) HU5.out (by first | omega | (simp at *; omega)) #[.int .i64 fx, .int .i64 fy, .int .i64 fz, .int .i64 dx, .int .i64 dy, .int .i64 dz, .int .i64 pt]
          obtain ⟨y6, hy6⟩ : ∃ y, y5.setRow (y4.heap.size) #[.int .i64 fx, .int .i64 fy, .int .i64 fz, .int .i64 dx, .int .i64 dy, .int .i64 dz, .int .i64 pt] = y := ⟨_, rfl⟩
          have hO : ∀ k, k ≠ y4.heap.size → y6.heap[k]? = y5.heap[k]? := fun k hk => by rw [← hy6]; exact setRow_other _ _ _ _ hk
          rw [hy6] at hN HUx ⊢
          clear hy6
          have HU6 := Lib.hid HUx
          clear HUx
          have hr6_0 := (hO _ (by omega)).trans hr5_0
          have hr6_1 := (hO _ (by omega)).trans hr5_1
          have hr6_2 := (hO _ (by omega)).trans hr5_2
          have hr6_3 := hN
          clear hN
          refine hK.out _ _ (⟨(hO _ (by omega)).trans hS5a.1, (hO _ (by omega)).trans hS5a.2⟩) (fun hS6s => ?_)
          clear hK K
          refine wpAnyH_ready (rs := [7]) (by kernel_rfl) (by simp) ?_
          refine AllReadyH.cons rfl (fun K hK => ?_) AllReadyH.nil
          refine step_store_row rfl 91 (.tmp 12) (.tmp 24) rfl #[.int .i64 0, .int .i64 0, .int .i64 0, .int .i64 0, .int .i64 0, .int .i64 0, .int .i64 0, .int .i64 0, .int .i64 0, .int .i64 0, .int .i64 0, .int .i64 0, .int .i64 0, .int .i64 0, .int .i64 0, .int .i64 0, .int .i64 0, .int .i64 0, .int .i64 0, .int .i64 0, .int .i64 0, .int .i64 0, .int .i64 0, .int .i64 0] #[.int .i64 a0, .int .i64 a1, .int .i64 a2, .int .i64 a3, .int .i64 a4, .int .i64 a5, .int .i64 a6, .int .i64 a7, .int .i64 a8, .int .i64 a9, .int .i64 a10, .int .i64 a11, .int .i64 a12, .int .i64 a13, .int .i64 a14, .int .i64 a15, .int .i64 a16, .int .i64 a17, .int .i64 a18, .int .i64 a19, .int .i64 a20, .int .i64 a21, .int .i64 a22, .int .i64 a23] _ 91 hr6_2 rfl (by first | rfl | (go_simp; done) | (go_simp; rfl)) (by kernel_rfl) rfl (by simp [Value.oneCell']) ?_
          have hN := setRow_heap _ (y2.heap.size) _ #[.int .i64 a0, .int .i64 a1, .int .i64 a2, .int .i64 a3, .int .i64 a4, .int .i64 a5, .int .i64 a6, .int .i64 a7, .int .i64 a8, .int .i64 a9, .int .i64 a10, .int .i64 a11, .int .i64 a12, .int .i64 a13, .int .i64 a14, .int .i64 a15, .int .i64 a16, .int .i64 a17, .int .i64 a18, .int .i64 a19, .int .i64 a20, .int .i64 a21, .int .i64 a22, .int .i64 a23] _ _ hr6_2
          have hsz := HU6.out.size
          have HUx := below_setRow (g := y2.heap.size) HU6.out (by first | omega | (simp at *; omega)) #[.int .i64 a0, .int .i64 a1, .int .i64 a2, .int .i64 a3, .int .i64 a4, .int .i64 a5, .int .i64 a6, .int .i64 a7, .int .i64 a8, .int .i64 a9, .int .i64 a10, .int .i64 a11, .int .i64 a12, .int .i64 a13, .int .i64 a14, .int .i64 a15, .int .i64 a16, .int .i64 a17, .int .i64 a18, .int .i64 a19, .int .i64 a20, .int .i64 a21, .int .i64 a22, .int .i64 a23]
          obtain ⟨y7, hy7⟩ : ∃ y, y6.setRow (y2.heap.size) #[.int .i64 a0, .int .i64 a1, .int .i64 a2, .int .i64 a3, .int .i64 a4, .int .i64 a5, .int .i64 a6, .int .i64 a7, .int .i64 a8, .int .i64 a9, .int .i64 a10, .int .i64 a11, .int .i64 a12, .int .i64 a13, .int .i64 a14, .int .i64 a15, .int .i64 a16, .int .i64 a17, .int .i64 a18, .int .i64 a19, .int .i64 a20, .int .i64 a21, .int .i64 a22, .int .i64 a23] = y := ⟨_, rfl⟩
          have hO : ∀ k, k ≠ y2.heap.size → y7.heap[k]? = y6.heap[k]? := fun k hk => by rw [← hy7]; exact setRow_other _ _ _ _ hk
          rw [hy7] at hN HUx ⊢
          clear hy7
          have HU7 := Lib.hid HUx
          clear HUx
          have hr7_0 := (hO _ (by omega)).trans hr6_0
          have hr7_1 := (hO _ (by omega)).trans hr6_1
          have hr7_2 := hN
          have hr7_3 := (hO _ (by omega)).trans hr6_3
          clear hN
          refine hK.out _ _ (⟨(hO _ (by omega)).trans hS6s.1, (hO _ (by omega)).trans hS6s.2⟩) (fun hS7s => ?_)
          clear hK K
          refine wpAnyH_done (by kernel_rfl) ?_ _
          go_wp2_with fail
          go_meet
          exact ⟨_, _, rfl, rfl, hr7_3, hr7_2, HU7⟩
        · skip
          go_simp
          have hb4 := below_n1 y3 (.cells #[.int .i64 0, .int .i64 0, .int .i64 0, .int .i64 0, .int .i64 0, .int .i64 0, .int .i64 0] 101)
          have hN := heap_alloc_last y3 (.cells #[.int .i64 0, .int .i64 0, .int .i64 0, .int .i64 0, .int .i64 0, .int .i64 0, .int .i64 0] 101)
          obtain ⟨y4, hy4⟩ : ∃ y, y3.alloc (.cells #[.int .i64 0, .int .i64 0, .int .i64 0, .int .i64 0, .int .i64 0, .int .i64 0, .int .i64 0] 101) = y := ⟨_, rfl⟩
          rw [hy4] at hb4 hN ⊢
          clear hy4
          have hl4_0 := lt_heap hr3_0
          have hr4_0 := (hb4.block _ (lt_heap hr3_0)).trans hr3_0
          have hl4_1 := lt_heap hr3_1
          have hr4_1 := (hb4.block _ (lt_heap hr3_1)).trans hr3_1
          have hl4_2 := lt_heap hr3_2
          have hr4_2 := (hb4.block _ (lt_heap hr3_2)).trans hr3_2
          have hr4_3 := hN
          clear hN
          have HU4 := Lib.hid (HU3.out.trans (hb4.mono HU3.out.size))
          refine hK.out _ _ (⟨(hb4.block _ (lt_heap hS3a.1)).trans hS3a.1, (hb4.block _ (lt_heap hS3a.2)).trans hS3a.2⟩) (fun hS4a => ?_)
          clear hK K
          refine wpAnyH_ready (rs := [3]) (by kernel_rfl) (by simp) ?_
          refine AllReadyH.cons rfl (fun K hK => ?_) AllReadyH.nil
          go_simp
          go_wp2_with (go_at_call 25; refine (lmoving_any _ _ _ _ _ _ _ _ _ _ _ _ _ _ _ _ _ _ _ _ _ _ _ _ _ ).mono ?_; rintro e y5 ⟨rfl, hb5⟩)
          have hr5_0 := (hb5.block _ (lt_heap hr4_0)).trans hr4_0
          have hr5_1 := (hb5.block _ (lt_heap hr4_1)).trans hr4_1
          have hr5_2 := (hb5.block _ (lt_heap hr4_2)).trans hr4_2
          have hr5_3 := (hb5.block _ (lt_heap hr4_3)).trans hr4_3
          have HU5 := Lib.hid (HU4.out.trans (hb5.mono HU4.out.size))
          refine hK.out _ _ (⟨(hb5.block _ (lt_heap hS4a.1)).trans hS4a.1, (hb5.block _ (lt_heap hS4a.2)).trans hS4a.2⟩) (fun hS5c => ?_)
          clear hK K
          refine wpAnyH_ready (rs := [6]) (by kernel_rfl) (by simp) ?_
          refine AllReadyH.cons rfl (fun K hK => ?_) AllReadyH.nil
          refine step_store_row rfl 101 (.tmp 11) (.tmp 22) rfl #[.int .i64 0, .int .i64 0, .int .i64 0, .int .i64 0, .int .i64 0, .int .i64 0, .int .i64 0] #[.int .i64 fx, .int .i64 fy, .int .i64 fz, .int .i64 dx, .int .i64 dy, .int .i64 dz, .int .i64 pt] _ 101 hr5_3 rfl (by first | rfl | (go_simp; done) | (go_simp; rfl)) (by kernel_rfl) rfl (by simp [Value.oneCell']) ?_
          have hN := setRow_heap _ (y3.heap.size) _ #[.int .i64 fx, .int .i64 fy, .int .i64 fz, .int .i64 dx, .int .i64 dy, .int .i64 dz, .int .i64 pt] _ _ hr5_3
          have hsz := HU5.out.size
          have HUx := below_setRow (g := y3.heap.size) HU5.out (by first | omega | (simp at *; omega)) #[.int .i64 fx, .int .i64 fy, .int .i64 fz, .int .i64 dx, .int .i64 dy, .int .i64 dz, .int .i64 pt]
          obtain ⟨y6, hy6⟩ : ∃ y, y5.setRow (y3.heap.size) #[.int .i64 fx, .int .i64 fy, .int .i64 fz, .int .i64 dx, .int .i64 dy, .int .i64 dz, .int .i64 pt] = y := ⟨_, rfl⟩
          have hO : ∀ k, k ≠ y3.heap.size → y6.heap[k]? = y5.heap[k]? := fun k hk => by rw [← hy6]; exact setRow_other _ _ _ _ hk
          rw [hy6] at hN HUx ⊢
          clear hy6
          have HU6 := Lib.hid HUx
          clear HUx
          have hr6_0 := (hO _ (by omega)).trans hr5_0
          have hr6_1 := (hO _ (by omega)).trans hr5_1
          have hr6_2 := (hO _ (by omega)).trans hr5_2
          have hr6_3 := hN
          clear hN
          refine hK.out _ _ (⟨(hO _ (by omega)).trans hS5c.1, (hO _ (by omega)).trans hS5c.2⟩) (fun hS6s => ?_)
          clear hK K
          refine wpAnyH_ready (rs := [7]) (by kernel_rfl) (by simp) ?_
          refine AllReadyH.cons rfl (fun K hK => ?_) AllReadyH.nil
          refine step_store_row rfl 91 (.tmp 12) (.tmp 24) rfl #[.int .i64 0, .int .i64 0, .int .i64 0, .int .i64 0, .int .i64 0, .int .i64 0, .int .i64 0, .int .i64 0, .int .i64 0, .int .i64 0, .int .i64 0, .int .i64 0, .int .i64 0, .int .i64 0, .int .i64 0, .int .i64 0, .int .i64 0, .int .i64 0, .int .i64 0, .int .i64 0, .int .i64 0, .int .i64 0, .int .i64 0, .int .i64 0] #[.int .i64 a0, .int .i64 a1, .int .i64 a2, .int .i64 a3, .int .i64 a4, .int .i64 a5, .int .i64 a6, .int .i64 a7, .int .i64 a8, .int .i64 a9, .int .i64 a10, .int .i64 a11, .int .i64 a12, .int .i64 a13, .int .i64 a14, .int .i64 a15, .int .i64 a16, .int .i64 a17, .int .i64 a18, .int .i64 a19, .int .i64 a20, .int .i64 a21, .int .i64 a22, .int .i64 a23] _ 91 hr6_2 rfl (by first | rfl | (go_simp; done) | (go_simp; rfl)) (by kernel_rfl) rfl (by simp [Value.oneCell']) ?_
          have hN := setRow_heap _ (y2.heap.size) _ #[.int .i64 a0, .int .i64 a1, .int .i64 a2, .int .i64 a3, .int .i64 a4, .int .i64 a5, .int .i64 a6, .int .i64 a7, .int .i64 a8, .int .i64 a9, .int .i64 a10, .int .i64 a11, .int .i64 a12, .int .i64 a13, .int .i64 a14, .int .i64 a15, .int .i64 a16, .int .i64 a17, .int .i64 a18, .int .i64 a19, .int .i64 a20, .int .i64 a21, .int .i64 a22, .int .i64 a23] _ _ hr6_2
          have hsz := HU6.out.size
          have HUx := below_setRow (g := y2.heap.size) HU6.out (by first | omega | (simp at *; omega)) #[.int .i64 a0, .int .i64 a1, .int .i64 a2, .int .i64 a3, .int .i64 a4, .int .i64 a5, .int .i64 a6, .int .i64 a7, .int .i64 a8, .int .i64 a9, .int .i64 a10, .int .i64 a11, .int .i64 a12, .int .i64 a13, .int .i64 a14, .int .i64 a15, .int .i64 a16, .int .i64 a17, .int .i64 a18, .int .i64 a19, .int .i64 a20, .int .i64 a21, .int .i64 a22, .int .i64 a23]
          obtain ⟨y7, hy7⟩ : ∃ y, y6.setRow (y2.heap.size) #[.int .i64 a0, .int .i64 a1, .int .i64 a2, .int .i64 a3, .int .i64 a4, .int .i64 a5, .int .i64 a6, .int .i64 a7, .int .i64 a8, .int .i64 a9, .int .i64 a10, .int .i64 a11, .int .i64 a12, .int .i64 a13, .int .i64 a14, .int .i64 a15, .int .i64 a16, .int .i64 a17, .int .i64 a18, .int .i64 a19, .int .i64 a20, .int .i64 a21, .int .i64 a22, .int .i64 a23] = y := ⟨_, rfl⟩
          have hO : ∀ k, k ≠ y2.heap.size → y7.heap[k]? = y6.heap[k]? := fun k hk => by rw [← hy7]; exact setRow_other _ _ _ _ hk
          rw [hy7] at hN HUx ⊢
          clear hy7
          have HU7 := Lib.hid HUx
          clear HUx
          have hr7_0 := (hO _ (by omega)).trans hr6_0
          have hr7_1 := (hO _ (by omega)).trans hr6_1
          have hr7_2 := hN
          have hr7_3 := (hO _ (by omega)).trans hr6_3
          clear hN
          refine hK.out _ _ (⟨(hO _ (by omega)).trans hS6s.1, (hO _ (by omega)).trans hS6s.2⟩) (fun hS7s => ?_)
          clear hK K
          refine wpAnyH_done (by kernel_rfl) ?_ _
          go_wp2_with fail
          go_meet
          exact ⟨_, _, rfl, rfl, hr7_3, hr7_2, HU7⟩
    · skip
      go_simp
      have hb2 := below_n1 y1 (.cells #[.int .i64 0, .int .i64 0, .int .i64 0, .int .i64 0, .int .i64 0, .int .i64 0, .int .i64 0] 101)
      have hN := heap_alloc_last y1 (.cells #[.int .i64 0, .int .i64 0, .int .i64 0, .int .i64 0, .int .i64 0, .int .i64 0, .int .i64 0] 101)
      obtain ⟨y2, hy2⟩ : ∃ y, y1.alloc (.cells #[.int .i64 0, .int .i64 0, .int .i64 0, .int .i64 0, .int .i64 0, .int .i64 0, .int .i64 0] 101) = y := ⟨_, rfl⟩
      rw [hy2] at hb2 hN ⊢
      clear hy2
      have hl2_0 := lt_heap hr1_0
      have hr2_0 := (hb2.block _ (lt_heap hr1_0)).trans hr1_0
      have hl2_1 := lt_heap hr1_1
      have hr2_1 := (hb2.block _ (lt_heap hr1_1)).trans hr1_1
      have hr2_2 := hN
      clear hN
      have HU2 := Lib.hid (HU1.out.trans (hb2.mono HU1.out.size))
      refine hK.out _ _ (⟨(hb2.block _ (lt_heap hS0.1)).trans hS0.1, (hb2.block _ (lt_heap hS0.2)).trans hS0.2⟩) (fun hS2a => ?_)
      clear hK K
      refine wpAnyH_ready (rs := [1, 5]) (by kernel_rfl) (by simp) ?_
      refine AllReadyH.cons rfl (fun K hK => ?_) (AllReadyH.cons rfl (fun K hK => ?_) AllReadyH.nil)
      · skip
        go_simp
        go_wp2_with (go_at_call 28; refine (rto_any _ _ _ _ _ _ _ _ ).mono ?_; rintro e y3 ⟨rfl, hb3⟩)
        have hr3_0 := (hb3.block _ (lt_heap hr2_0)).trans hr2_0
        have hr3_1 := (hb3.block _ (lt_heap hr2_1)).trans hr2_1
        have hr3_2 := (hb3.block _ (lt_heap hr2_2)).trans hr2_2
        have HU3 := Lib.hid (HU2.out.trans (hb3.mono HU2.out.size))
        refine hK.out _ _ (⟨(hb3.block _ (lt_heap hS2a.1)).trans hS2a.1, (hb3.block _ (lt_heap hS2a.2)).trans hS2a.2⟩) (fun hS3c => ?_)
        clear hK K
        refine wpAnyH_ready (rs := [3, 5]) (by kernel_rfl) (by simp) ?_
        refine AllReadyH.cons rfl (fun K hK => ?_) (AllReadyH.cons rfl (fun K hK => ?_) AllReadyH.nil)
        · skip
          go_simp
          go_wp2_with (go_at_call 25; refine (lmoving_any _ _ _ _ _ _ _ _ _ _ _ _ _ _ _ _ _ _ _ _ _ _ _ _ _ ).mono ?_; rintro e y4 ⟨rfl, hb4⟩)
          have hr4_0 := (hb4.block _ (lt_heap hr3_0)).trans hr3_0
          have hr4_1 := (hb4.block _ (lt_heap hr3_1)).trans hr3_1
          have hr4_2 := (hb4.block _ (lt_heap hr3_2)).trans hr3_2
          have HU4 := Lib.hid (HU3.out.trans (hb4.mono HU3.out.size))
          refine hK.out _ _ (⟨(hb4.block _ (lt_heap hS3c.1)).trans hS3c.1, (hb4.block _ (lt_heap hS3c.2)).trans hS3c.2⟩) (fun hS4c => ?_)
          clear hK K
          refine wpAnyH_ready (rs := [5]) (by kernel_rfl) (by simp) ?_
          refine AllReadyH.cons rfl (fun K hK => ?_) AllReadyH.nil
          go_simp
          have hb5 := below_n1 y4 (.cells #[.int .i64 0, .int .i64 0, .int .i64 0, .int .i64 0, .int .i64 0, .int .i64 0, .int .i64 0, .int .i64 0, .int .i64 0, .int .i64 0, .int .i64 0, .int .i64 0, .int .i64 0, .int .i64 0, .int .i64 0, .int .i64 0, .int .i64 0, .int .i64 0, .int .i64 0, .int .i64 0, .int .i64 0, .int .i64 0, .int .i64 0, .int .i64 0] 91)
          have hN := heap_alloc_last y4 (.cells #[.int .i64 0, .int .i64 0, .int .i64 0, .int .i64 0, .int .i64 0, .int .i64 0, .int .i64 0, .int .i64 0, .int .i64 0, .int .i64 0, .int .i64 0, .int .i64 0, .int .i64 0, .int .i64 0, .int .i64 0, .int .i64 0, .int .i64 0, .int .i64 0, .int .i64 0, .int .i64 0, .int .i64 0, .int .i64 0, .int .i64 0, .int .i64 0] 91)
          obtain ⟨y5, hy5⟩ : ∃ y, y4.alloc (.cells #[.int .i64 0, .int .i64 0, .int .i64 0, .int .i64 0, .int .i64 0, .int .i64 0, .int .i64 0, .int .i64 0, .int .i64 0, .int .i64 0, .int .i64 0, .int .i64 0, .int .i64 0, .int .i64 0, .int .i64 0, .int .i64 0, .int .i64 0, .int .i64 0, .int .i64 0, .int .i64 0, .int .i64 0, .int .i64 0, .int .i64 0, .int .i64 0] 91) = y := ⟨_, rfl⟩
          rw [hy5] at hb5 hN ⊢
          clear hy5
          have hl5_0 := lt_heap hr4_0
          have hr5_0 := (hb5.block _ (lt_heap hr4_0)).trans hr4_0
          have hl5_1 := lt_heap hr4_1
          have hr5_1 := (hb5.block _ (lt_heap hr4_1)).trans hr4_1
          have hl5_2 := lt_heap hr4_2
          have hr5_2 := (hb5.block _ (lt_heap hr4_2)).trans hr4_2
          have hr5_3 := hN
          clear hN
          have HU5 := Lib.hid (HU4.out.trans (hb5.mono HU4.out.size))
          refine hK.out _ _ (⟨(hb5.block _ (lt_heap hS4c.1)).trans hS4c.1, (hb5.block _ (lt_heap hS4c.2)).trans hS4c.2⟩) (fun hS5a => ?_)
          clear hK K
          refine wpAnyH_ready (rs := [6]) (by kernel_rfl) (by simp) ?_
          refine AllReadyH.cons rfl (fun K hK => ?_) AllReadyH.nil
          refine step_store_row rfl 101 (.tmp 11) (.tmp 22) rfl #[.int .i64 0, .int .i64 0, .int .i64 0, .int .i64 0, .int .i64 0, .int .i64 0, .int .i64 0] #[.int .i64 fx, .int .i64 fy, .int .i64 fz, .int .i64 dx, .int .i64 dy, .int .i64 dz, .int .i64 pt] _ 101 hr5_2 rfl (by first | rfl | (go_simp; done) | (go_simp; rfl)) (by kernel_rfl) rfl (by simp [Value.oneCell']) ?_
          have hN := setRow_heap _ (y1.heap.size) _ #[.int .i64 fx, .int .i64 fy, .int .i64 fz, .int .i64 dx, .int .i64 dy, .int .i64 dz, .int .i64 pt] _ _ hr5_2
          have hsz := HU5.out.size
          have HUx := below_setRow (g := y1.heap.size) HU5.out (by first | omega | (simp at *; omega)) #[.int .i64 fx, .int .i64 fy, .int .i64 fz, .int .i64 dx, .int .i64 dy, .int .i64 dz, .int .i64 pt]
          obtain ⟨y6, hy6⟩ : ∃ y, y5.setRow (y1.heap.size) #[.int .i64 fx, .int .i64 fy, .int .i64 fz, .int .i64 dx, .int .i64 dy, .int .i64 dz, .int .i64 pt] = y := ⟨_, rfl⟩
          have hO : ∀ k, k ≠ y1.heap.size → y6.heap[k]? = y5.heap[k]? := fun k hk => by rw [← hy6]; exact setRow_other _ _ _ _ hk
          rw [hy6] at hN HUx ⊢
          clear hy6
          have HU6 := Lib.hid HUx
          clear HUx
          have hr6_0 := (hO _ (by omega)).trans hr5_0
          have hr6_1 := (hO _ (by omega)).trans hr5_1
          have hr6_2 := hN
          have hr6_3 := (hO _ (by omega)).trans hr5_3
          clear hN
          refine hK.out _ _ (⟨(hO _ (by omega)).trans hS5a.1, (hO _ (by omega)).trans hS5a.2⟩) (fun hS6s => ?_)
          clear hK K
          refine wpAnyH_ready (rs := [7]) (by kernel_rfl) (by simp) ?_
          refine AllReadyH.cons rfl (fun K hK => ?_) AllReadyH.nil
          refine step_store_row rfl 91 (.tmp 12) (.tmp 24) rfl #[.int .i64 0, .int .i64 0, .int .i64 0, .int .i64 0, .int .i64 0, .int .i64 0, .int .i64 0, .int .i64 0, .int .i64 0, .int .i64 0, .int .i64 0, .int .i64 0, .int .i64 0, .int .i64 0, .int .i64 0, .int .i64 0, .int .i64 0, .int .i64 0, .int .i64 0, .int .i64 0, .int .i64 0, .int .i64 0, .int .i64 0, .int .i64 0] #[.int .i64 a0, .int .i64 a1, .int .i64 a2, .int .i64 a3, .int .i64 a4, .int .i64 a5, .int .i64 a6, .int .i64 a7, .int .i64 a8, .int .i64 a9, .int .i64 a10, .int .i64 a11, .int .i64 a12, .int .i64 a13, .int .i64 a14, .int .i64 a15, .int .i64 a16, .int .i64 a17, .int .i64 a18, .int .i64 a19, .int .i64 a20, .int .i64 a21, .int .i64 a22, .int .i64 a23] _ 91 hr6_3 rfl (by first | rfl | (go_simp; done) | (go_simp; rfl)) (by kernel_rfl) rfl (by simp [Value.oneCell']) ?_
          have hN := setRow_heap _ (y4.heap.size) _ #[.int .i64 a0, .int .i64 a1, .int .i64 a2, .int .i64 a3, .int .i64 a4, .int .i64 a5, .int .i64 a6, .int .i64 a7, .int .i64 a8, .int .i64 a9, .int .i64 a10, .int .i64 a11, .int .i64 a12, .int .i64 a13, .int .i64 a14, .int .i64 a15, .int .i64 a16, .int .i64 a17, .int .i64 a18, .int .i64 a19, .int .i64 a20, .int .i64 a21, .int .i64 a22, .int .i64 a23] _ _ hr6_3
          have hsz := HU6.out.size
          have HUx := below_setRow (g := y4.heap.size) HU6.out (by first | omega | (simp at *; omega)) #[.int .i64 a0, .int .i64 a1, .int .i64 a2, .int .i64 a3, .int .i64 a4, .int .i64 a5, .int .i64 a6, .int .i64 a7, .int .i64 a8, .int .i64 a9, .int .i64 a10, .int .i64 a11, .int .i64 a12, .int .i64 a13, .int .i64 a14, .int .i64 a15, .int .i64 a16, .int .i64 a17, .int .i64 a18, .int .i64 a19, .int .i64 a20, .int .i64 a21, .int .i64 a22, .int .i64 a23]
          obtain ⟨y7, hy7⟩ : ∃ y, y6.setRow (y4.heap.size) #[.int .i64 a0, .int .i64 a1, .int .i64 a2, .int .i64 a3, .int .i64 a4, .int .i64 a5, .int .i64 a6, .int .i64 a7, .int .i64 a8, .int .i64 a9, .int .i64 a10, .int .i64 a11, .int .i64 a12, .int .i64 a13, .int .i64 a14, .int .i64 a15, .int .i64 a16, .int .i64 a17, .int .i64 a18, .int .i64 a19, .int .i64 a20, .int .i64 a21, .int .i64 a22, .int .i64 a23] = y := ⟨_, rfl⟩
          have hO : ∀ k, k ≠ y4.heap.size → y7.heap[k]? = y6.heap[k]? := fun k hk => by rw [← hy7]; exact setRow_other _ _ _ _ hk
          rw [hy7] at hN HUx ⊢
          clear hy7
          have HU7 := Lib.hid HUx
          clear HUx
          have hr7_0 := (hO _ (by omega)).trans hr6_0
          have hr7_1 := (hO _ (by omega)).trans hr6_1
          have hr7_2 := (hO _ (by omega)).trans hr6_2
          have hr7_3 := hN
          clear hN
          refine hK.out _ _ (⟨(hO _ (by omega)).trans hS6s.1, (hO _ (by omega)).trans hS6s.2⟩) (fun hS7s => ?_)
          clear hK K
          refine wpAnyH_done (by kernel_rfl) ?_ _
          go_wp2_with fail
          go_meet
          exact ⟨_, _, rfl, rfl, hr7_2, hr7_3, HU7⟩
        · skip
          go_simp
          have hb4 := below_n1 y3 (.cells #[.int .i64 0, .int .i64 0, .int .i64 0, .int .i64 0, .int .i64 0, .int .i64 0, .int .i64 0, .int .i64 0, .int .i64 0, .int .i64 0, .int .i64 0, .int .i64 0, .int .i64 0, .int .i64 0, .int .i64 0, .int .i64 0, .int .i64 0, .int .i64 0, .int .i64 0, .int .i64 0, .int .i64 0, .int .i64 0, .int .i64 0, .int .i64 0] 91)
          have hN := heap_alloc_last y3 (.cells #[.int .i64 0, .int .i64 0, .int .i64 0, .int .i64 0, .int .i64 0, .int .i64 0, .int .i64 0, .int .i64 0, .int .i64 0, .int .i64 0, .int .i64 0, .int .i64 0, .int .i64 0, .int .i64 0, .int .i64 0, .int .i64 0, .int .i64 0, .int .i64 0, .int .i64 0, .int .i64 0, .int .i64 0, .int .i64 0, .int .i64 0, .int .i64 0] 91)
          obtain ⟨y4, hy4⟩ : ∃ y, y3.alloc (.cells #[.int .i64 0, .int .i64 0, .int .i64 0, .int .i64 0, .int .i64 0, .int .i64 0, .int .i64 0, .int .i64 0, .int .i64 0, .int .i64 0, .int .i64 0, .int .i64 0, .int .i64 0, .int .i64 0, .int .i64 0, .int .i64 0, .int .i64 0, .int .i64 0, .int .i64 0, .int .i64 0, .int .i64 0, .int .i64 0, .int .i64 0, .int .i64 0] 91) = y := ⟨_, rfl⟩
          rw [hy4] at hb4 hN ⊢
          clear hy4
          have hl4_0 := lt_heap hr3_0
          have hr4_0 := (hb4.block _ (lt_heap hr3_0)).trans hr3_0
          have hl4_1 := lt_heap hr3_1
          have hr4_1 := (hb4.block _ (lt_heap hr3_1)).trans hr3_1
          have hl4_2 := lt_heap hr3_2
          have hr4_2 := (hb4.block _ (lt_heap hr3_2)).trans hr3_2
          have hr4_3 := hN
          clear hN
          have HU4 := Lib.hid (HU3.out.trans (hb4.mono HU3.out.size))
          refine hK.out _ _ (⟨(hb4.block _ (lt_heap hS3c.1)).trans hS3c.1, (hb4.block _ (lt_heap hS3c.2)).trans hS3c.2⟩) (fun hS4a => ?_)
          clear hK K
          refine wpAnyH_ready (rs := [3]) (by kernel_rfl) (by simp) ?_
          refine AllReadyH.cons rfl (fun K hK => ?_) AllReadyH.nil
          go_simp
          go_wp2_with (go_at_call 25; refine (lmoving_any _ _ _ _ _ _ _ _ _ _ _ _ _ _ _ _ _ _ _ _ _ _ _ _ _ ).mono ?_; rintro e y5 ⟨rfl, hb5⟩)
          have hr5_0 := (hb5.block _ (lt_heap hr4_0)).trans hr4_0
          have hr5_1 := (hb5.block _ (lt_heap hr4_1)).trans hr4_1
          have hr5_2 := (hb5.block _ (lt_heap hr4_2)).trans hr4_2
          have hr5_3 := (hb5.block _ (lt_heap hr4_3)).trans hr4_3
          have HU5 := Lib.hid (HU4.out.trans (hb5.mono HU4.out.size))
          refine hK.out _ _ (⟨(hb5.block _ (lt_heap hS4a.1)).trans hS4a.1, (hb5.block _ (lt_heap hS4a.2)).trans hS4a.2⟩) (fun hS5c => ?_)
          clear hK K
          refine wpAnyH_ready (rs := [6]) (by kernel_rfl) (by simp) ?_
          refine AllReadyH.cons rfl (fun K hK => ?_) AllReadyH.nil
          refine step_store_row rfl 101 (.tmp 11) (.tmp 22) rfl #[.int .i64 0, .int .i64 0, .int .i64 0, .int .i64 0, .int .i64 0, .int .i64 0, .int .i64 0] #[.int .i64 fx, .int .i64 fy, .int .i64 fz, .int .i64 dx, .int .i64 dy, .int .i64 dz, .int .i64 pt] _ 101 hr5_2 rfl (by first | rfl | (go_simp; done) | (go_simp; rfl)) (by kernel_rfl) rfl (by simp [Value.oneCell']) ?_
          have hN := setRow_heap _ (y1.heap.size) _ #[.int .i64 fx, .int .i64 fy, .int .i64 fz, .int .i64 dx, .int .i64 dy, .int .i64 dz, .int .i64 pt] _ _ hr5_2
          have hsz := HU5.out.size
          have HUx := below_setRow (g := y1.heap.size) HU5.out (by first | omega | (simp at *; omega)) #[.int .i64 fx, .int .i64 fy, .int .i64 fz, .int .i64 dx, .int .i64 dy, .int .i64 dz, .int .i64 pt]
          obtain ⟨y6, hy6⟩ : ∃ y, y5.setRow (y1.heap.size) #[.int .i64 fx, .int .i64 fy, .int .i64 fz, .int .i64 dx, .int .i64 dy, .int .i64 dz, .int .i64 pt] = y := ⟨_, rfl⟩
          have hO : ∀ k, k ≠ y1.heap.size → y6.heap[k]? = y5.heap[k]? := fun k hk => by rw [← hy6]; exact setRow_other _ _ _ _ hk
          rw [hy6] at hN HUx ⊢
          clear hy6
          have HU6 := Lib.hid HUx
          clear HUx
          have hr6_0 := (hO _ (by omega)).trans hr5_0
          have hr6_1 := (hO _ (by omega)).trans hr5_1
          have hr6_2 := hN
          have hr6_3 := (hO _ (by omega)).trans hr5_3
          clear hN
          refine hK.out _ _ (⟨(hO _ (by omega)).trans hS5c.1, (hO _ (by omega)).trans hS5c.2⟩) (fun hS6s => ?_)
          clear hK K
          refine wpAnyH_ready (rs := [7]) (by kernel_rfl) (by simp) ?_
          refine AllReadyH.cons rfl (fun K hK => ?_) AllReadyH.nil
          refine step_store_row rfl 91 (.tmp 12) (.tmp 24) rfl #[.int .i64 0, .int .i64 0, .int .i64 0, .int .i64 0, .int .i64 0, .int .i64 0, .int .i64 0, .int .i64 0, .int .i64 0, .int .i64 0, .int .i64 0, .int .i64 0, .int .i64 0, .int .i64 0, .int .i64 0, .int .i64 0, .int .i64 0, .int .i64 0, .int .i64 0, .int .i64 0, .int .i64 0, .int .i64 0, .int .i64 0, .int .i64 0] #[.int .i64 a0, .int .i64 a1, .int .i64 a2, .int .i64 a3, .int .i64 a4, .int .i64 a5, .int .i64 a6, .int .i64 a7, .int .i64 a8, .int .i64 a9, .int .i64 a10, .int .i64 a11, .int .i64 a12, .int .i64 a13, .int .i64 a14, .int .i64 a15, .int .i64 a16, .int .i64 a17, .int .i64 a18, .int .i64 a19, .int .i64 a20, .int .i64 a21, .int .i64 a22, .int .i64 a23] _ 91 hr6_3 rfl (by first | rfl | (go_simp; done) | (go_simp; rfl)) (by kernel_rfl) rfl (by simp [Value.oneCell']) ?_
          have hN := setRow_heap _ (y3.heap.size) _ #[.int .i64 a0, .int .i64 a1, .int .i64 a2, .int .i64 a3, .int .i64 a4, .int .i64 a5, .int .i64 a6, .int .i64 a7, .int .i64 a8, .int .i64 a9, .int .i64 a10, .int .i64 a11, .int .i64 a12, .int .i64 a13, .int .i64 a14, .int .i64 a15, .int .i64 a16, .int .i64 a17, .int .i64 a18, .int .i64 a19, .int .i64 a20, .int .i64 a21, .int .i64 a22, .int .i64 a23] _ _ hr6_3
          have hsz := HU6.out.size
          have HUx := below_setRow (g := y3.heap.size) HU6.out (by first | omega | (simp at *; omega)) #[.int .i64 a0, .int .i64 a1, .int .i64 a2, .int .i64 a3, .int .i64 a4, .int .i64 a5, .int .i64 a6, .int .i64 a7, .int .i64 a8, .int .i64 a9, .int .i64 a10, .int .i64 a11, .int .i64 a12, .int .i64 a13, .int .i64 a14, .int .i64 a15, .int .i64 a16, .int .i64 a17, .int .i64 a18, .int .i64 a19, .int .i64 a20, .int .i64 a21, .int .i64 a22, .int .i64 a23]
          obtain ⟨y7, hy7⟩ : ∃ y, y6.setRow (y3.heap.size) #[.int .i64 a0, .int .i64 a1, .int .i64 a2, .int .i64 a3, .int .i64 a4, .int .i64 a5, .int .i64 a6, .int .i64 a7, .int .i64 a8, .int .i64 a9, .int .i64 a10, .int .i64 a11, .int .i64 a12, .int .i64 a13, .int .i64 a14, .int .i64 a15, .int .i64 a16, .int .i64 a17, .int .i64 a18, .int .i64 a19, .int .i64 a20, .int .i64 a21, .int .i64 a22, .int .i64 a23] = y := ⟨_, rfl⟩
          have hO : ∀ k, k ≠ y3.heap.size → y7.heap[k]? = y6.heap[k]? := fun k hk => by rw [← hy7]; exact setRow_other _ _ _ _ hk
          rw [hy7] at hN HUx ⊢
          clear hy7
          have HU7 := Lib.hid HUx
          clear HUx
          have hr7_0 := (hO _ (by omega)).trans hr6_0
          have hr7_1 := (hO _ (by omega)).trans hr6_1
          have hr7_2 := (hO _ (by omega)).trans hr6_2
          have hr7_3 := hN
          clear hN
          refine hK.out _ _ (⟨(hO _ (by omega)).trans hS6s.1, (hO _ (by omega)).trans hS6s.2⟩) (fun hS7s => ?_)
          clear hK K
          refine wpAnyH_done (by kernel_rfl) ?_ _
          go_wp2_with fail
          go_meet
          exact ⟨_, _, rfl, rfl, hr7_2, hr7_3, HU7⟩
      · skip
        go_simp
        have hb3 := below_n1 y2 (.cells #[.int .i64 0, .int .i64 0, .int .i64 0, .int .i64 0, .int .i64 0, .int .i64 0, .int .i64 0, .int .i64 0, .int .i64 0, .int .i64 0, .int .i64 0, .int .i64 0, .int .i64 0, .int .i64 0, .int .i64 0, .int .i64 0, .int .i64 0, .int .i64 0, .int .i64 0, .int .i64 0, .int .i64 0, .int .i64 0, .int .i64 0, .int .i64 0] 91)
        have hN := heap_alloc_last y2 (.cells #[.int .i64 0, .int .i64 0, .int .i64 0, .int .i64 0, .int .i64 0, .int .i64 0, .int .i64 0, .int .i64 0, .int .i64 0, .int .i64 0, .int .i64 0, .int .i64 0, .int .i64 0, .int .i64 0, .int .i64 0, .int .i64 0, .int .i64 0, .int .i64 0, .int .i64 0, .int .i64 0, .int .i64 0, .int .i64 0, .int .i64 0, .int .i64 0] 91)
        obtain ⟨y3, hy3⟩ : ∃ y, y2.alloc (.cells #[.int .i64 0, .int .i64 0, .int .i64 0, .int .i64 0, .int .i64 0, .int .i64 0, .int .i64 0, .int .i64 0, .int .i64 0, .int .i64 0, .int .i64 0, .int .i64 0, .int .i64 0, .int .i64 0, .int .i64 0, .int .i64 0, .int .i64 0, .int .i64 0, .int .i64 0, .int .i64 0, .int .i64 0, .int .i64 0, .int .i64 0, .int .i64 0] 91) = y := ⟨_, rfl⟩
        rw [hy3] at hb3 hN ⊢
        clear hy3
        have hl3_0 := lt_heap hr2_0
        have hr3_0 := (hb3.block _ (lt_heap hr2_0)).trans hr2_0
        have hl3_1 := lt_heap hr2_1
        have hr3_1 := (hb3.block _ (lt_heap hr2_1)).trans hr2_1
        have hl3_2 := lt_heap hr2_2
        have hr3_2 := (hb3.block _ (lt_heap hr2_2)).trans hr2_2
        have hr3_3 := hN
        clear hN
        have HU3 := Lib.hid (HU2.out.trans (hb3.mono HU2.out.size))
        refine hK.out _ _ (⟨(hb3.block _ (lt_heap hS2a.1)).trans hS2a.1, (hb3.block _ (lt_heap hS2a.2)).trans hS2a.2⟩) (fun hS3a => ?_)
        clear hK K
        refine wpAnyH_ready (rs := [1]) (by kernel_rfl) (by simp) ?_
        refine AllReadyH.cons rfl (fun K hK => ?_) AllReadyH.nil
        go_simp
        go_wp2_with (go_at_call 28; refine (rto_any _ _ _ _ _ _ _ _ ).mono ?_; rintro e y4 ⟨rfl, hb4⟩)
        have hr4_0 := (hb4.block _ (lt_heap hr3_0)).trans hr3_0
        have hr4_1 := (hb4.block _ (lt_heap hr3_1)).trans hr3_1
        have hr4_2 := (hb4.block _ (lt_heap hr3_2)).trans hr3_2
        have hr4_3 := (hb4.block _ (lt_heap hr3_3)).trans hr3_3
        have HU4 := Lib.hid (HU3.out.trans (hb4.mono HU3.out.size))
        refine hK.out _ _ (⟨(hb4.block _ (lt_heap hS3a.1)).trans hS3a.1, (hb4.block _ (lt_heap hS3a.2)).trans hS3a.2⟩) (fun hS4c => ?_)
        clear hK K
        refine wpAnyH_ready (rs := [3]) (by kernel_rfl) (by simp) ?_
        refine AllReadyH.cons rfl (fun K hK => ?_) AllReadyH.nil
        go_simp
        go_wp2_with (go_at_call 25; refine (lmoving_any _ _ _ _ _ _ _ _ _ _ _ _ _ _ _ _ _ _ _ _ _ _ _ _ _ ).mono ?_; rintro e y5 ⟨rfl, hb5⟩)
        have hr5_0 := (hb5.block _ (lt_heap hr4_0)).trans hr4_0
        have hr5_1 := (hb5.block _ (lt_heap hr4_1)).trans hr4_1
        have hr5_2 := (hb5.block _ (lt_heap hr4_2)).trans hr4_2
        have hr5_3 := (hb5.block _ (lt_heap hr4_3)).trans hr4_3
        have HU5 := Lib.hid (HU4.out.trans (hb5.mono HU4.out.size))
        refine hK.out _ _ (⟨(hb5.block _ (lt_heap hS4c.1)).trans hS4c.1, (hb5.block _ (lt_heap hS4c.2)).trans hS4c.2⟩) (fun hS5c => ?_)
        clear hK K
        refine wpAnyH_ready (rs := [6]) (by kernel_rfl) (by simp) ?_
        refine AllReadyH.cons rfl (fun K hK => ?_) AllReadyH.nil
        refine step_store_row rfl 101 (.tmp 11) (.tmp 22) rfl #[.int .i64 0, .int .i64 0, .int .i64 0, .int .i64 0, .int .i64 0, .int .i64 0, .int .i64 0] #[.int .i64 fx, .int .i64 fy, .int .i64 fz, .int .i64 dx, .int .i64 dy, .int .i64 dz, .int .i64 pt] _ 101 hr5_2 rfl (by first | rfl | (go_simp; done) | (go_simp; rfl)) (by kernel_rfl) rfl (by simp [Value.oneCell']) ?_
        have hN := setRow_heap _ (y1.heap.size) _ #[.int .i64 fx, .int .i64 fy, .int .i64 fz, .int .i64 dx, .int .i64 dy, .int .i64 dz, .int .i64 pt] _ _ hr5_2
        have hsz := HU5.out.size
        have HUx := below_setRow (g := y1.heap.size) HU5.out (by first | omega | (simp at *; omega)) #[.int .i64 fx, .int .i64 fy, .int .i64 fz, .int .i64 dx, .int .i64 dy, .int .i64 dz, .int .i64 pt]
        obtain ⟨y6, hy6⟩ : ∃ y, y5.setRow (y1.heap.size) #[.int .i64 fx, .int .i64 fy, .int .i64 fz, .int .i64 dx, .int .i64 dy, .int .i64 dz, .int .i64 pt] = y := ⟨_, rfl⟩
        have hO : ∀ k, k ≠ y1.heap.size → y6.heap[k]? = y5.heap[k]? := fun k hk => by rw [← hy6]; exact setRow_other _ _ _ _ hk
        rw [hy6] at hN HUx ⊢
        clear hy6
        have HU6 := Lib.hid HUx
        clear HUx
        have hr6_0 := (hO _ (by omega)).trans hr5_0
        have hr6_1 := (hO _ (by omega)).trans hr5_1
        have hr6_2 := hN
        have hr6_3 := (hO _ (by omega)).trans hr5_3
        clear hN
        refine hK.out _ _ (⟨(hO _ (by omega)).trans hS5c.1, (hO _ (by omega)).trans hS5c.2⟩) (fun hS6s => ?_)
        clear hK K
        refine wpAnyH_ready (rs := [7]) (by kernel_rfl) (by simp) ?_
        refine AllReadyH.cons rfl (fun K hK => ?_) AllReadyH.nil
        refine step_store_row rfl 91 (.tmp 12) (.tmp 24) rfl #[.int .i64 0, .int .i64 0, .int .i64 0, .int .i64 0, .int .i64 0, .int .i64 0, .int .i64 0, .int .i64 0, .int .i64 0, .int .i64 0, .int .i64 0, .int .i64 0, .int .i64 0, .int .i64 0, .int .i64 0, .int .i64 0, .int .i64 0, .int .i64 0, .int .i64 0, .int .i64 0, .int .i64 0, .int .i64 0, .int .i64 0, .int .i64 0] #[.int .i64 a0, .int .i64 a1, .int .i64 a2, .int .i64 a3, .int .i64 a4, .int .i64 a5, .int .i64 a6, .int .i64 a7, .int .i64 a8, .int .i64 a9, .int .i64 a10, .int .i64 a11, .int .i64 a12, .int .i64 a13, .int .i64 a14, .int .i64 a15, .int .i64 a16, .int .i64 a17, .int .i64 a18, .int .i64 a19, .int .i64 a20, .int .i64 a21, .int .i64 a22, .int .i64 a23] _ 91 hr6_3 rfl (by first | rfl | (go_simp; done) | (go_simp; rfl)) (by kernel_rfl) rfl (by simp [Value.oneCell']) ?_
        have hN := setRow_heap _ (y2.heap.size) _ #[.int .i64 a0, .int .i64 a1, .int .i64 a2, .int .i64 a3, .int .i64 a4, .int .i64 a5, .int .i64 a6, .int .i64 a7, .int .i64 a8, .int .i64 a9, .int .i64 a10, .int .i64 a11, .int .i64 a12, .int .i64 a13, .int .i64 a14, .int .i64 a15, .int .i64 a16, .int .i64 a17, .int .i64 a18, .int .i64 a19, .int .i64 a20, .int .i64 a21, .int .i64 a22, .int .i64 a23] _ _ hr6_3
        have hsz := HU6.out.size
        have HUx := below_setRow (g := y2.heap.size) HU6.out (by first | omega | (simp at *; omega)) #[.int .i64 a0, .int .i64 a1, .int .i64 a2, .int .i64 a3, .int .i64 a4, .int .i64 a5, .int .i64 a6, .int .i64 a7, .int .i64 a8, .int .i64 a9, .int .i64 a10, .int .i64 a11, .int .i64 a12, .int .i64 a13, .int .i64 a14, .int .i64 a15, .int .i64 a16, .int .i64 a17, .int .i64 a18, .int .i64 a19, .int .i64 a20, .int .i64 a21, .int .i64 a22, .int .i64 a23]
        obtain ⟨y7, hy7⟩ : ∃ y, y6.setRow (y2.heap.size) #[.int .i64 a0, .int .i64 a1, .int .i64 a2, .int .i64 a3, .int .i64 a4, .int .i64 a5, .int .i64 a6, .int .i64 a7, .int .i64 a8, .int .i64 a9, .int .i64 a10, .int .i64 a11, .int .i64 a12, .int .i64 a13, .int .i64 a14, .int .i64 a15, .int .i64 a16, .int .i64 a17, .int .i64 a18, .int .i64 a19, .int .i64 a20, .int .i64 a21, .int .i64 a22, .int .i64 a23] = y := ⟨_, rfl⟩
        have hO : ∀ k, k ≠ y2.heap.size → y7.heap[k]? = y6.heap[k]? := fun k hk => by rw [← hy7]; exact setRow_other _ _ _ _ hk
        rw [hy7] at hN HUx ⊢
        clear hy7
        have HU7 := Lib.hid HUx
        clear HUx
        have hr7_0 := (hO _ (by omega)).trans hr6_0
        have hr7_1 := (hO _ (by omega)).trans hr6_1
        have hr7_2 := (hO _ (by omega)).trans hr6_2
        have hr7_3 := hN
        clear hN
        refine hK.out _ _ (⟨(hO _ (by omega)).trans hS6s.1, (hO _ (by omega)).trans hS6s.2⟩) (fun hS7s => ?_)
        clear hK K
        refine wpAnyH_done (by kernel_rfl) ?_ _
        go_wp2_with fail
        go_meet
        exact ⟨_, _, rfl, rfl, hr7_2, hr7_3, HU7⟩
    · skip
      go_simp
      have hb2 := below_n1 y1 (.cells #[.int .i64 0, .int .i64 0, .int .i64 0, .int .i64 0, .int .i64 0, .int .i64 0, .int .i64 0, .int .i64 0, .int .i64 0, .int .i64 0, .int .i64 0, .int .i64 0, .int .i64 0, .int .i64 0, .int .i64 0, .int .i64 0, .int .i64 0, .int .i64 0, .int .i64 0, .int .i64 0, .int .i64 0, .int .i64 0, .int .i64 0, .int .i64 0] 91)
      have hN := heap_alloc_last y1 (.cells #[.int .i64 0, .int .i64 0, .int .i64 0, .int .i64 0, .int .i64 0, .int .i64 0, .int .i64 0, .int .i64 0, .int .i64 0, .int .i64 0, .int .i64 0, .int .i64 0, .int .i64 0, .int .i64 0, .int .i64 0, .int .i64 0, .int .i64 0, .int .i64 0, .int .i64 0, .int .i64 0, .int .i64 0, .int .i64 0, .int .i64 0, .int .i64 0] 91)
      obtain ⟨y2, hy2⟩ : ∃ y, y1.alloc (.cells #[.int .i64 0, .int .i64 0, .int .i64 0, .int .i64 0, .int .i64 0, .int .i64 0, .int .i64 0, .int .i64 0, .int .i64 0, .int .i64 0, .int .i64 0, .int .i64 0, .int .i64 0, .int .i64 0, .int .i64 0, .int .i64 0, .int .i64 0, .int .i64 0, .int .i64 0, .int .i64 0, .int .i64 0, .int .i64 0, .int .i64 0, .int .i64 0] 91) = y := ⟨_, rfl⟩
      rw [hy2] at hb2 hN ⊢
      clear hy2
      have hl2_0 := lt_heap hr1_0
      have hr2_0 := (hb2.block _ (lt_heap hr1_0)).trans hr1_0
      have hl2_1 := lt_heap hr1_1
      have hr2_1 := (hb2.block _ (lt_heap hr1_1)).trans hr1_1
      have hr2_2 := hN
      clear hN
      have HU2 := Lib.hid (HU1.out.trans (hb2.mono HU1.out.size))
      refine hK.out _ _ (⟨(hb2.block _ (lt_heap hS0.1)).trans hS0.1, (hb2.block _ (lt_heap hS0.2)).trans hS0.2⟩) (fun hS2a => ?_)
      clear hK K
      refine wpAnyH_ready (rs := [1, 4]) (by kernel_rfl) (by simp) ?_
      refine AllReadyH.cons rfl (fun K hK => ?_) (AllReadyH.cons rfl (fun K hK => ?_) AllReadyH.nil)
      · skip
        go_simp
        go_wp2_with (go_at_call 28; refine (rto_any _ _ _ _ _ _ _ _ ).mono ?_; rintro e y3 ⟨rfl, hb3⟩)
        have hr3_0 := (hb3.block _ (lt_heap hr2_0)).trans hr2_0
        have hr3_1 := (hb3.block _ (lt_heap hr2_1)).trans hr2_1
        have hr3_2 := (hb3.block _ (lt_heap hr2_2)).trans hr2_2
        have HU3 := Lib.hid (HU2.out.trans (hb3.mono HU2.out.size))
        refine hK.out _ _ (⟨(hb3.block _ (lt_heap hS2a.1)).trans hS2a.1, (hb3.block _ (lt_heap hS2a.2)).trans hS2a.2⟩) (fun hS3c => ?_)
        clear hK K
        refine wpAnyH_ready (rs := [3, 4]) (by kernel_rfl) (by simp) ?_
        refine AllReadyH.cons rfl (fun K hK => ?_) (AllReadyH.cons rfl (fun K hK => ?_) AllReadyH.nil)
        · skip
          go_simp
          go_wp2_with (go_at_call 25; refine (lmoving_any _ _ _ _ _ _ _ _ _ _ _ _ _ _ _ _ _ _ _ _ _ _ _ _ _ ).mono ?_; rintro e y4 ⟨rfl, hb4⟩)
          have hr4_0 := (hb4.block _ (lt_heap hr3_0)).trans hr3_0
          have hr4_1 := (hb4.block _ (lt_heap hr3_1)).trans hr3_1
          have hr4_2 := (hb4.block _ (lt_heap hr3_2)).trans hr3_2
          have HU4 := Lib.hid (HU3.out.trans (hb4.mono HU3.out.size))
          refine hK.out _ _ (⟨(hb4.block _ (lt_heap hS3c.1)).trans hS3c.1, (hb4.block _ (lt_heap hS3c.2)).trans hS3c.2⟩) (fun hS4c => ?_)
          clear hK K
          refine wpAnyH_ready (rs := [4]) (by kernel_rfl) (by simp) ?_
          refine AllReadyH.cons rfl (fun K hK => ?_) AllReadyH.nil
          go_simp
          have hb5 := below_n1 y4 (.cells #[.int .i64 0, .int .i64 0, .int .i64 0, .int .i64 0, .int .i64 0, .int .i64 0, .int .i64 0] 101)
          have hN := heap_alloc_last y4 (.cells #[.int .i64 0, .int .i64 0, .int .i64 0, .int .i64 0, .int .i64 0, .int .i64 0, .int .i64 0] 101)
          obtain ⟨y5, hy5⟩ : ∃ y, y4.alloc (.cells #[.int .i64 0, .int .i64 0, .int .i64 0, .int .i64 0, .int .i64 0, .int .i64 0, .int .i64 0] 101) = y := ⟨_, rfl⟩
          rw [hy5] at hb5 hN ⊢
          clear hy5
          have hl5_0 := lt_heap hr4_0
          have hr5_0 := (hb5.block _ (lt_heap hr4_0)).trans hr4_0
          have hl5_1 := lt_heap hr4_1
          have hr5_1 := (hb5.block _ (lt_heap hr4_1)).trans hr4_1
          have hl5_2 := lt_heap hr4_2
          have hr5_2 := (hb5.block _ (lt_heap hr4_2)).trans hr4_2
          have hr5_3 := hN
          clear hN
          have HU5 := Lib.hid (HU4.out.trans (hb5.mono HU4.out.size))
          refine hK.out _ _ (⟨(hb5.block _ (lt_heap hS4c.1)).trans hS4c.1, (hb5.block _ (lt_heap hS4c.2)).trans hS4c.2⟩) (fun hS5a => ?_)
          clear hK K
          refine wpAnyH_ready (rs := [6]) (by kernel_rfl) (by simp) ?_
          refine AllReadyH.cons rfl (fun K hK => ?_) AllReadyH.nil
          refine step_store_row rfl 101 (.tmp 11) (.tmp 22) rfl #[.int .i64 0, .int .i64 0, .int .i64 0, .int .i64 0, .int .i64 0, .int .i64 0, .int .i64 0] #[.int .i64 fx, .int .i64 fy, .int .i64 fz, .int .i64 dx, .int .i64 dy, .int .i64 dz, .int .i64 pt] _ 101 hr5_3 rfl (by first | rfl | (go_simp; done) | (go_simp; rfl)) (by kernel_rfl) rfl (by simp [Value.oneCell']) ?_
          have hN := setRow_heap _ (y4.heap.size) _ #[.int .i64 fx, .int .i64 fy, .int .i64 fz, .int .i64 dx, .int .i64 dy, .int .i64 dz, .int .i64 pt] _ _ hr5_3
          have hsz := HU5.out.size
          have HUx := below_setRow (g := y4.heap.size) HU5.out (by first | omega | (simp at *; omega)) #[.int .i64 fx, .int .i64 fy, .int .i64 fz, .int .i64 dx, .int .i64 dy, .int .i64 dz, .int .i64 pt]
          obtain ⟨y6, hy6⟩ : ∃ y, y5.setRow (y4.heap.size) #[.int .i64 fx, .int .i64 fy, .int .i64 fz, .int .i64 dx, .int .i64 dy, .int .i64 dz, .int .i64 pt] = y := ⟨_, rfl⟩
          have hO : ∀ k, k ≠ y4.heap.size → y6.heap[k]? = y5.heap[k]? := fun k hk => by rw [← hy6]; exact setRow_other _ _ _ _ hk
          rw [hy6] at hN HUx ⊢
          clear hy6
          have HU6 := Lib.hid HUx
          clear HUx
          have hr6_0 := (hO _ (by omega)).trans hr5_0
          have hr6_1 := (hO _ (by omega)).trans hr5_1
          have hr6_2 := (hO _ (by omega)).trans hr5_2
          have hr6_3 := hN
          clear hN
          refine hK.out _ _ (⟨(hO _ (by omega)).trans hS5a.1, (hO _ (by omega)).trans hS5a.2⟩) (fun hS6s => ?_)
          clear hK K
          refine wpAnyH_ready (rs := [7]) (by kernel_rfl) (by simp) ?_
          refine AllReadyH.cons rfl (fun K hK => ?_) AllReadyH.nil
          refine step_store_row rfl 91 (.tmp 12) (.tmp 24) rfl #[.int .i64 0, .int .i64 0, .int .i64 0, .int .i64 0, .int .i64 0, .int .i64 0, .int .i64 0, .int .i64 0, .int .i64 0, .int .i64 0, .int .i64 0, .int .i64 0, .int .i64 0, .int .i64 0, .int .i64 0, .int .i64 0, .int .i64 0, .int .i64 0, .int .i64 0, .int .i64 0, .int .i64 0, .int .i64 0, .int .i64 0, .int .i64 0] #[.int .i64 a0, .int .i64 a1, .int .i64 a2, .int .i64 a3, .int .i64 a4, .int .i64 a5, .int .i64 a6, .int .i64 a7, .int .i64 a8, .int .i64 a9, .int .i64 a10, .int .i64 a11, .int .i64 a12, .int .i64 a13, .int .i64 a14, .int .i64 a15, .int .i64 a16, .int .i64 a17, .int .i64 a18, .int .i64 a19, .int .i64 a20, .int .i64 a21, .int .i64 a22, .int .i64 a23] _ 91 hr6_2 rfl (by first | rfl | (go_simp; done) | (go_simp; rfl)) (by kernel_rfl) rfl (by simp [Value.oneCell']) ?_
          have hN := setRow_heap _ (y1.heap.size) _ #[.int .i64 a0, .int .i64 a1, .int .i64 a2, .int .i64 a3, .int .i64 a4, .int .i64 a5, .int .i64 a6, .int .i64 a7, .int .i64 a8, .int .i64 a9, .int .i64 a10, .int .i64 a11, .int .i64 a12, .int .i64 a13, .int .i64 a14, .int .i64 a15, .int .i64 a16, .int .i64 a17, .int .i64 a18, .int .i64 a19, .int .i64 a20, .int .i64 a21, .int .i64 a22, .int .i64 a23] _ _ hr6_2
          have hsz := HU6.out.size
          have HUx := below_setRow (g := y1.heap.size) HU6.out (by first | omega | (simp at *; omega)) #[.int .i64 a0, .int .i64 a1, .int .i64 a2, .int .i64 a3, .int .i64 a4, .int .i64 a5, .int .i64 a6, .int .i64 a7, .int .i64 a8, .int .i64 a9, .int .i64 a10, .int .i64 a11, .int .i64 a12, .int .i64 a13, .int .i64 a14, .int .i64 a15, .int .i64 a16, .int .i64 a17, .int .i64 a18, .int .i64 a19, .int .i64 a20, .int .i64 a21, .int .i64 a22, .int .i64 a23]
          obtain ⟨y7, hy7⟩ : ∃ y, y6.setRow (y1.heap.size) #[.int .i64 a0, .int .i64 a1, .int .i64 a2, .int .i64 a3, .int .i64 a4, .int .i64 a5, .int .i64 a6, .int .i64 a7, .int .i64 a8, .int .i64 a9, .int .i64 a10, .int .i64 a11, .int .i64 a12, .int .i64 a13, .int .i64 a14, .int .i64 a15, .int .i64 a16, .int .i64 a17, .int .i64 a18, .int .i64 a19, .int .i64 a20, .int .i64 a21, .int .i64 a22, .int .i64 a23] = y := ⟨_, rfl⟩
          have hO : ∀ k, k ≠ y1.heap.size → y7.heap[k]? = y6.heap[k]? := fun k hk => by rw [← hy7]; exact setRow_other _ _ _ _ hk
          rw [hy7] at hN HUx ⊢
          clear hy7
          have HU7 := Lib.hid HUx
          clear HUx
          have hr7_0 := (hO _ (by omega)).trans hr6_0
          have hr7_1 := (hO _ (by omega)).trans hr6_1
          have hr7_2 := hN
          have hr7_3 := (hO _ (by omega)).trans hr6_3
          clear hN
          refine hK.out _ _ (⟨(hO _ (by omega)).trans hS6s.1, (hO _ (by omega)).trans hS6s.2⟩) (fun hS7s => ?_)
          clear hK K
          refine wpAnyH_done (by kernel_rfl) ?_ _
          go_wp2_with fail
          go_meet
          exact ⟨_, _, rfl, rfl, hr7_3, hr7_2, HU7⟩
        · skip
          go_simp
          have hb4 := below_n1 y3 (.cells #[.int .i64 0, .int .i64 0, .int .i64 0, .int .i64 0, .int .i64 0, .int .i64 0, .int .i64 0] 101)
          have hN := heap_alloc_last y3 (.cells #[.int .i64 0, .int .i64 0, .int .i64 0, .int .i64 0, .int .i64 0, .int .i64 0, .int .i64 0] 101)
          obtain ⟨y4, hy4⟩ : ∃ y, y3.alloc (.cells #[.int .i64 0, .int .i64 0, .int .i64 0, .int .i64 0, .int .i64 0, .int .i64 0, .int .i64 0] 101) = y := ⟨_, rfl⟩
          rw [hy4] at hb4 hN ⊢
          clear hy4
          have hl4_0 := lt_heap hr3_0
          have hr4_0 := (hb4.block _ (lt_heap hr3_0)).trans hr3_0
          have hl4_1 := lt_heap hr3_1
          have hr4_1 := (hb4.block _ (lt_heap hr3_1)).trans hr3_1
          have hl4_2 := lt_heap hr3_2
          have hr4_2 := (hb4.block _ (lt_heap hr3_2)).trans hr3_2
          have hr4_3 := hN
          clear hN
          have HU4 := Lib.hid (HU3.out.trans (hb4.mono HU3.out.size))
          refine hK.out _ _ (⟨(hb4.block _ (lt_heap hS3c.1)).trans hS3c.1, (hb4.block _ (lt_heap hS3c.2)).trans hS3c.2⟩) (fun hS4a => ?_)
          clear hK K
          refine wpAnyH_ready (rs := [3]) (by kernel_rfl) (by simp) ?_
          refine AllReadyH.cons rfl (fun K hK => ?_) AllReadyH.nil
          go_simp
          go_wp2_with (go_at_call 25; refine (lmoving_any _ _ _ _ _ _ _ _ _ _ _ _ _ _ _ _ _ _ _ _ _ _ _ _ _ ).mono ?_; rintro e y5 ⟨rfl, hb5⟩)
          have hr5_0 := (hb5.block _ (lt_heap hr4_0)).trans hr4_0
          have hr5_1 := (hb5.block _ (lt_heap hr4_1)).trans hr4_1
          have hr5_2 := (hb5.block _ (lt_heap hr4_2)).trans hr4_2
          have hr5_3 := (hb5.block _ (lt_heap hr4_3)).trans hr4_3
          have HU5 := Lib.hid (HU4.out.trans (hb5.mono HU4.out.size))
          refine hK.out _ _ (⟨(hb5.block _ (lt_heap hS4a.1)).trans hS4a.1, (hb5.block _ (lt_heap hS4a.2)).trans hS4a.2⟩) (fun hS5c => ?_)
          clear hK K
          refine wpAnyH_ready (rs := [6]) (by kernel_rfl) (by simp) ?_
          refine AllReadyH.cons rfl (fun K hK => ?_) AllReadyH.nil
          refine step_store_row rfl 101 (.tmp 11) (.tmp 22) rfl #[.int .i64 0, .int .i64 0, .int .i64 0, .int .i64 0, .int .i64 0, .int .i64 0, .int .i64 0] #[.int .i64 fx, .int .i64 fy, .int .i64 fz, .int .i64 dx, .int .i64 dy, .int .i64 dz, .int .i64 pt] _ 101 hr5_3 rfl (by first | rfl | (go_simp; done) | (go_simp; rfl)) (by kernel_rfl) rfl (by simp [Value.oneCell']) ?_
          have hN := setRow_heap _ (y3.heap.size) _ #[.int .i64 fx, .int .i64 fy, .int .i64 fz, .int .i64 dx, .int .i64 dy, .int .i64 dz, .int .i64 pt] _ _ hr5_3
          have hsz := HU5.out.size
          have HUx := below_setRow (g := y3.heap.size) HU5.out (by first | omega | (simp at *; omega)) #[.int .i64 fx, .int .i64 fy, .int .i64 fz, .int .i64 dx, .int .i64 dy, .int .i64 dz, .int .i64 pt]
          obtain ⟨y6, hy6⟩ : ∃ y, y5.setRow (y3.heap.size) #[.int .i64 fx, .int .i64 fy, .int .i64 fz, .int .i64 dx, .int .i64 dy, .int .i64 dz, .int .i64 pt] = y := ⟨_, rfl⟩
          have hO : ∀ k, k ≠ y3.heap.size → y6.heap[k]? = y5.heap[k]? := fun k hk => by rw [← hy6]; exact setRow_other _ _ _ _ hk
          rw [hy6] at hN HUx ⊢
          clear hy6
          have HU6 := Lib.hid HUx
          clear HUx
          have hr6_0 := (hO _ (by omega)).trans hr5_0
          have hr6_1 := (hO _ (by omega)).trans hr5_1
          have hr6_2 := (hO _ (by omega)).trans hr5_2
          have hr6_3 := hN
          clear hN
          refine hK.out _ _ (⟨(hO _ (by omega)).trans hS5c.1, (hO _ (by omega)).trans hS5c.2⟩) (fun hS6s => ?_)
          clear hK K
          refine wpAnyH_ready (rs := [7]) (by kernel_rfl) (by simp) ?_
          refine AllReadyH.cons rfl (fun K hK => ?_) AllReadyH.nil
          refine step_store_row rfl 91 (.tmp 12) (.tmp 24) rfl #[.int .i64 0, .int .i64 0, .int .i64 0, .int .i64 0, .int .i64 0, .int .i64 0, .int .i64 0, .int .i64 0, .int .i64 0, .int .i64 0, .int .i64 0, .int .i64 0, .int .i64 0, .int .i64 0, .int .i64 0, .int .i64 0, .int .i64 0, .int .i64 0, .int .i64 0, .int .i64 0, .int .i64 0, .int .i64 0, .int .i64 0, .int .i64 0] #[.int .i64 a0, .int .i64 a1, .int .i64 a2, .int .i64 a3, .int .i64 a4, .int .i64 a5, .int .i64 a6, .int .i64 a7, .int .i64 a8, .int .i64 a9, .int .i64 a10, .int .i64 a11, .int .i64 a12, .int .i64 a13, .int .i64 a14, .int .i64 a15, .int .i64 a16, .int .i64 a17, .int .i64 a18, .int .i64 a19, .int .i64 a20, .int .i64 a21, .int .i64 a22, .int .i64 a23] _ 91 hr6_2 rfl (by first | rfl | (go_simp; done) | (go_simp; rfl)) (by kernel_rfl) rfl (by simp [Value.oneCell']) ?_
          have hN := setRow_heap _ (y1.heap.size) _ #[.int .i64 a0, .int .i64 a1, .int .i64 a2, .int .i64 a3, .int .i64 a4, .int .i64 a5, .int .i64 a6, .int .i64 a7, .int .i64 a8, .int .i64 a9, .int .i64 a10, .int .i64 a11, .int .i64 a12, .int .i64 a13, .int .i64 a14, .int .i64 a15, .int .i64 a16, .int .i64 a17, .int .i64 a18, .int .i64 a19, .int .i64 a20, .int .i64 a21, .int .i64 a22, .int .i64 a23] _ _ hr6_2
          have hsz := HU6.out.size
          have HUx := below_setRow (g := y1.heap.size) HU6.out (by first | omega | (simp at *; omega)) #[.int .i64 a0, .int .i64 a1, .int .i64 a2, .int .i64 a3, .int .i64 a4, .int .i64 a5, .int .i64 a6, .int .i64 a7, .int .i64 a8, .int .i64 a9, .int .i64 a10, .int .i64 a11, .int .i64 a12, .int .i64 a13, .int .i64 a14, .int .i64 a15, .int .i64 a16, .int .i64 a17, .int .i64 a18, .int .i64 a19, .int .i64 a20, .int .i64 a21, .int .i64 a22, .int .i64 a23]
          obtain ⟨y7, hy7⟩ : ∃ y, y6.setRow (y1.heap.size) #[.int .i64 a0, .int .i64 a1, .int .i64 a2, .int .i64 a3, .int .i64 a4, .int .i64 a5, .int .i64 a6, .int .i64 a7, .int .i64 a8, .int .i64 a9, .int .i64 a10, .int .i64 a11, .int .i64 a12, .int .i64 a13, .int .i64 a14, .int .i64 a15, .int .i64 a16, .int .i64 a17, .int .i64 a18, .int .i64 a19, .int .i64 a20, .int .i64 a21, .int .i64 a22, .int .i64 a23] = y := ⟨_, rfl⟩
          have hO : ∀ k, k ≠ y1.heap.size → y7.heap[k]? = y6.heap[k]? := fun k hk => by rw [← hy7]; exact setRow_other _ _ _ _ hk
          rw [hy7] at hN HUx ⊢
          clear hy7
          have HU7 := Lib.hid HUx
          clear HUx
          have hr7_0 := (hO _ (by omega)).trans hr6_0
          have hr7_1 := (hO _ (by omega)).trans hr6_1
          have hr7_2 := hN
          have hr7_3 := (hO _ (by omega)).trans hr6_3
          clear hN
          refine hK.out _ _ (⟨(hO _ (by omega)).trans hS6s.1, (hO _ (by omega)).trans hS6s.2⟩) (fun hS7s => ?_)
          clear hK K
          refine wpAnyH_done (by kernel_rfl) ?_ _
          go_wp2_with fail
          go_meet
          exact ⟨_, _, rfl, rfl, hr7_3, hr7_2, HU7⟩
      · skip
        go_simp
        have hb3 := below_n1 y2 (.cells #[.int .i64 0, .int .i64 0, .int .i64 0, .int .i64 0, .int .i64 0, .int .i64 0, .int .i64 0] 101)
        have hN := heap_alloc_last y2 (.cells #[.int .i64 0, .int .i64 0, .int .i64 0, .int .i64 0, .int .i64 0, .int .i64 0, .int .i64 0] 101)
        obtain ⟨y3, hy3⟩ : ∃ y, y2.alloc (.cells #[.int .i64 0, .int .i64 0, .int .i64 0, .int .i64 0, .int .i64 0, .int .i64 0, .int .i64 0] 101) = y := ⟨_, rfl⟩
        rw [hy3] at hb3 hN ⊢
        clear hy3
        have hl3_0 := lt_heap hr2_0
        have hr3_0 := (hb3.block _ (lt_heap hr2_0)).trans hr2_0
        have hl3_1 := lt_heap hr2_1
        have hr3_1 := (hb3.block _ (lt_heap hr2_1)).trans hr2_1
        have hl3_2 := lt_heap hr2_2
        have hr3_2 := (hb3.block _ (lt_heap hr2_2)).trans hr2_2
        have hr3_3 := hN
        clear hN
        have HU3 := Lib.hid (HU2.out.trans (hb3.mono HU2.out.size))
        refine hK.out _ _ (⟨(hb3.block _ (lt_heap hS2a.1)).trans hS2a.1, (hb3.block _ (lt_heap hS2a.2)).trans hS2a.2⟩) (fun hS3a => ?_)
        clear hK K
        refine wpAnyH_ready (rs := [1]) (by kernel_rfl) (by simp) ?_
        refine AllReadyH.cons rfl (fun K hK => ?_) AllReadyH.nil
        go_simp
        go_wp2_with (go_at_call 28; refine (rto_any _ _ _ _ _ _ _ _ ).mono ?_; rintro e y4 ⟨rfl, hb4⟩)
        have hr4_0 := (hb4.block _ (lt_heap hr3_0)).trans hr3_0
        have hr4_1 := (hb4.block _ (lt_heap hr3_1)).trans hr3_1
        have hr4_2 := (hb4.block _ (lt_heap hr3_2)).trans hr3_2
        have hr4_3 := (hb4.block _ (lt_heap hr3_3)).trans hr3_3
        have HU4 := Lib.hid (HU3.out.trans (hb4.mono HU3.out.size))
        refine hK.out _ _ (⟨(hb4.block _ (lt_heap hS3a.1)).trans hS3a.1, (hb4.block _ (lt_heap hS3a.2)).trans hS3a.2⟩) (fun hS4c => ?_)
        clear hK K
        refine wpAnyH_ready (rs := [3]) (by kernel_rfl) (by simp) ?_
        refine AllReadyH.cons rfl (fun K hK => ?_) AllReadyH.nil
        go_simp
        go_wp2_with (go_at_call 25; refine (lmoving_any _ _ _ _ _ _ _ _ _ _ _ _ _ _ _ _ _ _ _ _ _ _ _ _ _ ).mono ?_; rintro e y5 ⟨rfl, hb5⟩)
        have hr5_0 := (hb5.block _ (lt_heap hr4_0)).trans hr4_0
        have hr5_1 := (hb5.block _ (lt_heap hr4_1)).trans hr4_1
        have hr5_2 := (hb5.block _ (lt_heap hr4_2)).trans hr4_2
        have hr5_3 := (hb5.block _ (lt_heap hr4_3)).trans hr4_3
        have HU5 := Lib.hid (HU4.out.trans (hb5.mono HU4.out.size))
        refine hK.out _ _ (⟨(hb5.block _ (lt_heap hS4c.1)).trans hS4c.1, (hb5.block _ (lt_heap hS4c.2)).trans hS4c.2⟩) (fun hS5c => ?_)
        clear hK K
        refine wpAnyH_ready (rs := [6]) (by kernel_rfl) (by simp) ?_
        refine AllReadyH.cons rfl (fun K hK => ?_) AllReadyH.nil
        refine step_store_row rfl 101 (.tmp 11) (.tmp 22) rfl #[.int .i64 0, .int .i64 0, .int .i64 0, .int .i64 0, .int .i64 0, .int .i64 0, .int .i64 0] #[.int .i64 fx, .int .i64 fy, .int .i64 fz, .int .i64 dx, .int .i64 dy, .int .i64 dz, .int .i64 pt] _ 101 hr5_3 rfl (by first | rfl | (go_simp; done) | (go_simp; rfl)) (by kernel_rfl) rfl (by simp [Value.oneCell']) ?_
        have hN := setRow_heap _ (y2.heap.size) _ #[.int .i64 fx, .int .i64 fy, .int .i64 fz, .int .i64 dx, .int .i64 dy, .int .i64 dz, .int .i64 pt] _ _ hr5_3
        have hsz := HU5.out.size
        have HUx := below_setRow (g := y2.heap.size) HU5.out (by first | omega | (simp at *; omega)) #[.int .i64 fx, .int .i64 fy, .int .i64 fz, .int .i64 dx, .int .i64 dy, .int .i64 dz, .int .i64 pt]
        obtain ⟨y6, hy6⟩ : ∃ y, y5.setRow (y2.heap.size) #[.int .i64 fx, .int .i64 fy, .int .i64 fz, .int .i64 dx, .int .i64 dy, .int .i64 dz, .int .i64 pt] = y := ⟨_, rfl⟩
        have hO : ∀ k, k ≠ y2.heap.size → y6.heap[k]? = y5.heap[k]? := fun k hk => by rw [← hy6]; exact setRow_other _ _ _ _ hk
        rw [hy6] at hN HUx ⊢
        clear hy6
        have HU6 := Lib.hid HUx
        clear HUx
        have hr6_0 := (hO _ (by omega)).trans hr5_0
        have hr6_1 := (hO _ (by omega)).trans hr5_1
        have hr6_2 := (hO _ (by omega)).trans hr5_2
        have hr6_3 := hN
        clear hN
        refine hK.out _ _ (⟨(hO _ (by omega)).trans hS5c.1, (hO _ (by omega)).trans hS5c.2⟩) (fun hS6s => ?_)
        clear hK K
        refine wpAnyH_ready (rs := [7]) (by kernel_rfl) (by simp) ?_
        refine AllReadyH.cons rfl (fun K hK => ?_) AllReadyH.nil
        refine step_store_row rfl 91 (.tmp 12) (.tmp 24) rfl #[.int .i64 0, .int .i64 0, .int .i64 0, .int .i64 0, .int .i64 0, .int .i64 0, .int .i64 0, .int .i64 0, .int .i64 0, .int .i64 0, .int .i64 0, .int .i64 0, .int .i64 0, .int .i64 0, .int .i64 0, .int .i64 0, .int .i64 0, .int .i64 0, .int .i64 0, .int .i64 0, .int .i64 0, .int .i64 0, .int .i64 0, .int .i64 0] #[.int .i64 a0, .int .i64 a1, .int .i64 a2, .int .i64 a3, .int .i64 a4, .int .i64 a5, .int .i64 a6, .int .i64 a7, .int .i64 a8, .int .i64 a9, .int .i64 a10, .int .i64 a11, .int .i64 a12, .int .i64 a13, .int .i64 a14, .int .i64 a15, .int .i64 a16, .int .i64 a17, .int .i64 a18, .int .i64 a19, .int .i64 a20, .int .i64 a21, .int .i64 a22, .int .i64 a23] _ 91 hr6_2 rfl (by first | rfl | (go_simp; done) | (go_simp; rfl)) (by kernel_rfl) rfl (by simp [Value.oneCell']) ?_
        have hN := setRow_heap _ (y1.heap.size) _ #[.int .i64 a0, .int .i64 a1, .int .i64 a2, .int .i64 a3, .int .i64 a4, .int .i64 a5, .int .i64 a6, .int .i64 a7, .int .i64 a8, .int .i64 a9, .int .i64 a10, .int .i64 a11, .int .i64 a12, .int .i64 a13, .int .i64 a14, .int .i64 a15, .int .i64 a16, .int .i64 a17, .int .i64 a18, .int .i64 a19, .int .i64 a20, .int .i64 a21, .int .i64 a22, .int .i64 a23] _ _ hr6_2
        have hsz := HU6.out.size
        have HUx := below_setRow (g := y1.heap.size) HU6.out (by first | omega | (simp at *; omega)) #[.int .i64 a0, .int .i64 a1, .int .i64 a2, .int .i64 a3, .int .i64 a4, .int .i64 a5, .int .i64 a6, .int .i64 a7, .int .i64 a8, .int .i64 a9, .int .i64 a10, .int .i64 a11, .int .i64 a12, .int .i64 a13, .int .i64 a14, .int .i64 a15, .int .i64 a16, .int .i64 a17, .int .i64 a18, .int .i64 a19, .int .i64 a20, .int .i64 a21, .int .i64 a22, .int .i64 a23]
        obtain ⟨y7, hy7⟩ : ∃ y, y6.setRow (y1.heap.size) #[.int .i64 a0, .int .i64 a1, .int .i64 a2, .int .i64 a3, .int .i64 a4, .int .i64 a5, .int .i64 a6, .int .i64 a7, .int .i64 a8, .int .i64 a9, .int .i64 a10, .int .i64 a11, .int .i64 a12, .int .i64 a13, .int .i64 a14, .int .i64 a15, .int .i64 a16, .int .i64 a17, .int .i64 a18, .int .i64 a19, .int .i64 a20, .int .i64 a21, .int .i64 a22, .int .i64 a23] = y := ⟨_, rfl⟩
        have hO : ∀ k, k ≠ y1.heap.size → y7.heap[k]? = y6.heap[k]? := fun k hk => by rw [← hy7]; exact setRow_other _ _ _ _ hk
        rw [hy7] at hN HUx ⊢
        clear hy7
        have HU7 := Lib.hid HUx
        clear HUx
        have hr7_0 := (hO _ (by omega)).trans hr6_0
        have hr7_1 := (hO _ (by omega)).trans hr6_1
        have hr7_2 := hN
        have hr7_3 := (hO _ (by omega)).trans hr6_3
        clear hN
        refine hK.out _ _ (⟨(hO _ (by omega)).trans hS6s.1, (hO _ (by omega)).trans hS6s.2⟩) (fun hS7s => ?_)
        clear hK K
        refine wpAnyH_done (by kernel_rfl) ?_ _
        go_wp2_with fail
        go_meet
        exact ⟨_, _, rfl, rfl, hr7_3, hr7_2, HU7⟩
  case rest =>
    obtain ⟨gr, gm, rfl, rfl, hr9_0, hr9_1, HU9⟩ := hcut
    rename World => y9
    have HWL0 := Lib.hid hr9_0
    have HWZ0 := Lib.hid (show (Try.prog.info? 101).map (·.size) = some (#[.int .i64 fx, .int .i64 fy, .int .i64 fz, .int .i64 dx, .int .i64 dy, .int .i64 dz, .int .i64 pt] : Array Value).size by kernel_rfl)
    have HWL1 := Lib.hid hr9_1
    have HWZ1 := Lib.hid (show (Try.prog.info? 91).map (·.size) = some (#[.int .i64 a0, .int .i64 a1, .int .i64 a2, .int .i64 a3, .int .i64 a4, .int .i64 a5, .int .i64 a6, .int .i64 a7, .int .i64 a8, .int .i64 a9, .int .i64 a10, .int .i64 a11, .int .i64 a12, .int .i64 a13, .int .i64 a14, .int .i64 a15, .int .i64 a16, .int .i64 a17, .int .i64 a18, .int .i64 a19, .int .i64 a20, .int .i64 a21, .int .i64 a22, .int .i64 a23] : Array Value).size by kernel_rfl)
    go_wp2_with (first | (with_reducible refine wpList_load_row rfl 101 (.tmp 11) rfl (gr) rfl 101 #[.int .i64 fx, .int .i64 fy, .int .i64 fz, .int .i64 dx, .int .i64 dy, .int .i64 dz, .int .i64 pt] (0, 0) _ HWL0.out Try.underlying101 rfl HWZ0.out ?_) | (with_reducible refine wpList_load_row rfl 91 (.tmp 12) rfl (gm) rfl 91 #[.int .i64 a0, .int .i64 a1, .int .i64 a2, .int .i64 a3, .int .i64 a4, .int .i64 a5, .int .i64 a6, .int .i64 a7, .int .i64 a8, .int .i64 a9, .int .i64 a10, .int .i64 a11, .int .i64 a12, .int .i64 a13, .int .i64 a14, .int .i64 a15, .int .i64 a16, .int .i64 a17, .int .i64 a18, .int .i64 a19, .int .i64 a20, .int .i64 a21, .int .i64 a22, .int .i64 a23] (0, 0) _ HWL1.out Try.underlying91 rfl HWZ1.out ?_))
    clear HWL0 HWZ0 HWL1 HWZ1
    refine (HT.out _ _ _).mono ?_
    rintro e y10 ⟨rfl, hb10⟩
    have hr10_0 := (hb10.block _ (lt_heap hr9_0)).trans hr9_0
    have hr10_1 := (hb10.block _ (lt_heap hr9_1)).trans hr9_1
    have HU10 := Lib.hid (HU9.out.trans (hb10.mono HU9.out.size))
    clear hr9_0 hr9_1 HU9
    rw [HOK.out]
    cases hf : first c ok near far with
    | none =>
      rw [testR_none]
      go_upto_region 3 with fail
      have hb11 := below_n1 y10 (.cells #[.int .i64 0, .int .i64 0, .int .i64 0, .int .i64 0, .int .i64 0, .int .i64 0, .int .i64 0, .int .i64 0] 104)
      have hN := heap_alloc_last y10 (.cells #[.int .i64 0, .int .i64 0, .int .i64 0, .int .i64 0, .int .i64 0, .int .i64 0, .int .i64 0, .int .i64 0] 104)
      obtain ⟨y11, hy11⟩ : ∃ y, y10.alloc (.cells #[.int .i64 0, .int .i64 0, .int .i64 0, .int .i64 0, .int .i64 0, .int .i64 0, .int .i64 0, .int .i64 0] 104) = y := ⟨_, rfl⟩
      have hs11 : y11.heap.size = y10.heap.size + 1 := by rw [← hy11]; simp
      rw [hy11] at hb11 hN ⊢
      clear hy11
      have hl11_0 := lt_heap hr10_0
      have hl11_1 := lt_heap hr10_1
      have hr11_0 := (hb11.block _ (lt_heap hr10_0)).trans hr10_0
      have hr11_1 := (hb11.block _ (lt_heap hr10_1)).trans hr10_1
      have HU11 := Lib.hid (HU10.out.trans (hb11.mono HU10.out.size))
      clear hr10_0 hr10_1 HU10
      have hr11_2 := hN
      clear hN
      have hb0 := HB0.out
      have hb1 := HB1.out
      have HWL0 := Lib.hid hr11_0
      have HWZ0 := Lib.hid (show (Try.prog.info? 101).map (·.size) = some (#[.int .i64 fx, .int .i64 fy, .int .i64 fz, .int .i64 dx, .int .i64 dy, .int .i64 dz, .int .i64 pt] : Array Value).size by kernel_rfl)
      have HWL1 := Lib.hid hr11_1
      have HWZ1 := Lib.hid (show (Try.prog.info? 91).map (·.size) = some (#[.int .i64 a0, .int .i64 a1, .int .i64 a2, .int .i64 a3, .int .i64 a4, .int .i64 a5, .int .i64 a6, .int .i64 a7, .int .i64 a8, .int .i64 a9, .int .i64 a10, .int .i64 a11, .int .i64 a12, .int .i64 a13, .int .i64 a14, .int .i64 a15, .int .i64 a16, .int .i64 a17, .int .i64 a18, .int .i64 a19, .int .i64 a20, .int .i64 a21, .int .i64 a22, .int .i64 a23] : Array Value).size by kernel_rfl)
      go_wp2_with (first | (with_reducible refine wpList_load_row rfl 101 (.tmp 11) rfl (gr) rfl 101 #[.int .i64 fx, .int .i64 fy, .int .i64 fz, .int .i64 dx, .int .i64 dy, .int .i64 dz, .int .i64 pt] (0, 0) _ HWL0.out Try.underlying101 rfl HWZ0.out ?_) | (with_reducible refine wpList_load_row rfl 91 (.tmp 12) rfl (gm) rfl 91 #[.int .i64 a0, .int .i64 a1, .int .i64 a2, .int .i64 a3, .int .i64 a4, .int .i64 a5, .int .i64 a6, .int .i64 a7, .int .i64 a8, .int .i64 a9, .int .i64 a10, .int .i64 a11, .int .i64 a12, .int .i64 a13, .int .i64 a14, .int .i64 a15, .int .i64 a16, .int .i64 a17, .int .i64 a18, .int .i64 a19, .int .i64 a20, .int .i64 a21, .int .i64 a22, .int .i64 a23] (0, 0) _ HWL1.out Try.underlying91 rfl HWZ1.out ?_))
      clear HWL0 HWZ0 HWL1 HWZ1
      clear hb0 hb1
      refine (HT.out _ _ _).mono ?_
      rintro e y12 ⟨rfl, hb12⟩
      have hr12_0 := (hb12.block _ (lt_heap hr11_0)).trans hr11_0
      have hr12_1 := (hb12.block _ (lt_heap hr11_1)).trans hr11_1
      have hr12_2 := (hb12.block _ (lt_heap hr11_2)).trans hr11_2
      have HU12 := Lib.hid (HU11.out.trans (hb12.mono HU11.out.size))
      clear hr11_0 hr11_1 hr11_2 HU11
      rw [HOK.out]
      cases hf2 : first c ok near (wrap64 (min far 2147483648 - back)) with
      | none =>
        rw [testR_none]
        go_upto_region 5 with fail
        have hb13 := below_n1 y12 (.cells #[.int .i64 0, .int .i64 0, .int .i64 0, .int .i64 0, .int .i64 0, .int .i64 0, .int .i64 0, .int .i64 0] 104)
        have hN := heap_alloc_last y12 (.cells #[.int .i64 0, .int .i64 0, .int .i64 0, .int .i64 0, .int .i64 0, .int .i64 0, .int .i64 0, .int .i64 0] 104)
        obtain ⟨y13, hy13⟩ : ∃ y, y12.alloc (.cells #[.int .i64 0, .int .i64 0, .int .i64 0, .int .i64 0, .int .i64 0, .int .i64 0, .int .i64 0, .int .i64 0] 104) = y := ⟨_, rfl⟩
        have hs13 : y13.heap.size = y12.heap.size + 1 := by rw [← hy13]; simp
        rw [hy13] at hb13 hN ⊢
        clear hy13
        have hl13_0 := lt_heap hr12_0
        have hl13_1 := lt_heap hr12_1
        have hl13_2 := lt_heap hr12_2
        have hr13_0 := (hb13.block _ (lt_heap hr12_0)).trans hr12_0
        have hr13_1 := (hb13.block _ (lt_heap hr12_1)).trans hr12_1
        have hr13_2 := (hb13.block _ (lt_heap hr12_2)).trans hr12_2
        have HU13 := Lib.hid (HU12.out.trans (hb13.mono HU12.out.size))
        clear hr12_0 hr12_1 hr12_2 HU12
        have hr13_3 := hN
        clear hN
        go_wp2_with fail
        refine (awake_any12 _).mono ?_
        rintro e y14 ⟨rfl, hb14⟩
        have hr14_0 := (hb14.block _ (lt_heap hr13_0)).trans hr13_0
        have hr14_1 := (hb14.block _ (lt_heap hr13_1)).trans hr13_1
        have hr14_2 := (hb14.block _ (lt_heap hr13_2)).trans hr13_2
        have hr14_3 := (hb14.block _ (lt_heap hr13_3)).trans hr13_3
        have HU14 := Lib.hid (HU13.out.trans (hb14.mono HU13.out.size))
        clear hr13_0 hr13_1 hr13_2 hr13_3 HU13
        go_wp2
        go_ret
        exact ⟨by simp, HU14.out⟩
      | some t2 =>
        have hfar : far < -2147483648 := Int.not_le.1 fun h9 => by
          have h8 := first_none hf (far_le h9 HB0.out HB1.out)
          rw [hf2] at h8; cases h8
        have dfar := decide_eq_true hfar
        rw [testR_some]
        go_upto_region 5 with fail
        have hb13 := below_n1 y12 (.cells #[.int .i64 t2, .int .i64 0, .int .i64 (at1 fx dx t2), .int .i64 (at1 fy dy t2), .int .i64 (at1 fz dz t2), .int .i64 (n0 t2), .int .i64 (n1 t2), .int .i64 (n2 t2)] 104)
        have hN := heap_alloc_last y12 (.cells #[.int .i64 t2, .int .i64 0, .int .i64 (at1 fx dx t2), .int .i64 (at1 fy dy t2), .int .i64 (at1 fz dz t2), .int .i64 (n0 t2), .int .i64 (n1 t2), .int .i64 (n2 t2)] 104)
        obtain ⟨y13, hy13⟩ : ∃ y, y12.alloc (.cells #[.int .i64 t2, .int .i64 0, .int .i64 (at1 fx dx t2), .int .i64 (at1 fy dy t2), .int .i64 (at1 fz dz t2), .int .i64 (n0 t2), .int .i64 (n1 t2), .int .i64 (n2 t2)] 104) = y := ⟨_, rfl⟩
        have hs13 : y13.heap.size = y12.heap.size + 1 := by rw [← hy13]; simp
        rw [hy13] at hb13 hN ⊢
        clear hy13
        have hl13_0 := lt_heap hr12_0
        have hl13_1 := lt_heap hr12_1
        have hl13_2 := lt_heap hr12_2
        have hr13_0 := (hb13.block _ (lt_heap hr12_0)).trans hr12_0
        have hr13_1 := (hb13.block _ (lt_heap hr12_1)).trans hr12_1
        have hr13_2 := (hb13.block _ (lt_heap hr12_2)).trans hr12_2
        have HU13 := Lib.hid (HU12.out.trans (hb13.mono HU12.out.size))
        clear hr12_0 hr12_1 hr12_2 HU12
        have hr13_3 := hN
        clear hN
        go_wp2_with fail
        refine (awake_any12 _).mono ?_
        rintro e y14 ⟨rfl, hb14⟩
        have hr14_0 := (hb14.block _ (lt_heap hr13_0)).trans hr13_0
        have hr14_1 := (hb14.block _ (lt_heap hr13_1)).trans hr13_1
        have hr14_2 := (hb14.block _ (lt_heap hr13_2)).trans hr13_2
        have hr14_3 := (hb14.block _ (lt_heap hr13_3)).trans hr13_3
        have HU14 := Lib.hid (HU13.out.trans (hb14.mono HU13.out.size))
        clear hr13_0 hr13_1 hr13_2 hr13_3 HU13
        go_wp2
        go_ret
        exact ⟨by simp, HU14.out⟩
    | some t =>
      obtain ⟨hmem, -, -, -⟩ := first_some hf
      have hst := HS.out t hmem
      have hs1 := hst.1
      have hs2 := hst.2
      clear hst hmem
      rw [testR_some]
      go_upto_region 3 with fail
      have hb11 := below_n1 y10 (.cells #[.int .i64 t, .int .i64 0, .int .i64 (at1 fx dx t), .int .i64 (at1 fy dy t), .int .i64 (at1 fz dz t), .int .i64 (n0 t), .int .i64 (n1 t), .int .i64 (n2 t)] 104)
      have hN := heap_alloc_last y10 (.cells #[.int .i64 t, .int .i64 0, .int .i64 (at1 fx dx t), .int .i64 (at1 fy dy t), .int .i64 (at1 fz dz t), .int .i64 (n0 t), .int .i64 (n1 t), .int .i64 (n2 t)] 104)
      obtain ⟨y11, hy11⟩ : ∃ y, y10.alloc (.cells #[.int .i64 t, .int .i64 0, .int .i64 (at1 fx dx t), .int .i64 (at1 fy dy t), .int .i64 (at1 fz dz t), .int .i64 (n0 t), .int .i64 (n1 t), .int .i64 (n2 t)] 104) = y := ⟨_, rfl⟩
      have hs11 : y11.heap.size = y10.heap.size + 1 := by rw [← hy11]; simp
      rw [hy11] at hb11 hN ⊢
      clear hy11
      have hl11_0 := lt_heap hr10_0
      have hl11_1 := lt_heap hr10_1
      have hr11_0 := (hb11.block _ (lt_heap hr10_0)).trans hr10_0
      have hr11_1 := (hb11.block _ (lt_heap hr10_1)).trans hr10_1
      have HU11 := Lib.hid (HU10.out.trans (hb11.mono HU10.out.size))
      clear hr10_0 hr10_1 HU10
      have hr11_2 := hN
      clear hN
      have c2_0 := cell_of_row _ _ 0 _ _ _ hr11_2
      have c2_1 := cell_of_row _ _ 1 _ _ _ hr11_2
      have c2_2 := cell_of_row _ _ 2 _ _ _ hr11_2
      have c2_3 := cell_of_row _ _ 3 _ _ _ hr11_2
      have c2_4 := cell_of_row _ _ 4 _ _ _ hr11_2
      have c2_5 := cell_of_row _ _ 5 _ _ _ hr11_2
      have c2_6 := cell_of_row _ _ 6 _ _ _ hr11_2
      have c2_7 := cell_of_row _ _ 7 _ _ _ hr11_2
      simp at c2_0 c2_1 c2_2 c2_3 c2_4 c2_5 c2_6 c2_7
      have HWL0 := Lib.hid hr11_0
      have HWZ0 := Lib.hid (show (Try.prog.info? 101).map (·.size) = some (#[.int .i64 fx, .int .i64 fy, .int .i64 fz, .int .i64 dx, .int .i64 dy, .int .i64 dz, .int .i64 pt] : Array Value).size by kernel_rfl)
      have HWL1 := Lib.hid hr11_1
      have HWZ1 := Lib.hid (show (Try.prog.info? 91).map (·.size) = some (#[.int .i64 a0, .int .i64 a1, .int .i64 a2, .int .i64 a3, .int .i64 a4, .int .i64 a5, .int .i64 a6, .int .i64 a7, .int .i64 a8, .int .i64 a9, .int .i64 a10, .int .i64 a11, .int .i64 a12, .int .i64 a13, .int .i64 a14, .int .i64 a15, .int .i64 a16, .int .i64 a17, .int .i64 a18, .int .i64 a19, .int .i64 a20, .int .i64 a21, .int .i64 a22, .int .i64 a23] : Array Value).size by kernel_rfl)
      go_wp2_with (first | (with_reducible refine wpList_load_row rfl 101 (.tmp 11) rfl (gr) rfl 101 #[.int .i64 fx, .int .i64 fy, .int .i64 fz, .int .i64 dx, .int .i64 dy, .int .i64 dz, .int .i64 pt] (0, 0) _ HWL0.out Try.underlying101 rfl HWZ0.out ?_) | (with_reducible refine wpList_load_row rfl 91 (.tmp 12) rfl (gm) rfl 91 #[.int .i64 a0, .int .i64 a1, .int .i64 a2, .int .i64 a3, .int .i64 a4, .int .i64 a5, .int .i64 a6, .int .i64 a7, .int .i64 a8, .int .i64 a9, .int .i64 a10, .int .i64 a11, .int .i64 a12, .int .i64 a13, .int .i64 a14, .int .i64 a15, .int .i64 a16, .int .i64 a17, .int .i64 a18, .int .i64 a19, .int .i64 a20, .int .i64 a21, .int .i64 a22, .int .i64 a23] (0, 0) _ HWL1.out Try.underlying91 rfl HWZ1.out ?_))
      clear HWL0 HWZ0 HWL1 HWZ1
      refine (HT.out _ _ _).mono ?_
      rintro e y12 ⟨rfl, hb12⟩
      clear c2_0 c2_1 c2_2 c2_3 c2_4 c2_5 c2_6 c2_7
      have hr12_0 := (hb12.block _ (lt_heap hr11_0)).trans hr11_0
      have hr12_1 := (hb12.block _ (lt_heap hr11_1)).trans hr11_1
      have hr12_2 := (hb12.block _ (lt_heap hr11_2)).trans hr11_2
      have HU12 := Lib.hid (HU11.out.trans (hb12.mono HU11.out.size))
      clear hr11_0 hr11_1 hr11_2 HU11
      rw [HOK.out, first_same hf, testR_some]
      go_upto_region 7 with fail
      have hb13 := below_n1 y12 (.cells #[.int .i64 t, .int .i64 0, .int .i64 (at1 fx dx t), .int .i64 (at1 fy dy t), .int .i64 (at1 fz dz t), .int .i64 (n0 t), .int .i64 (n1 t), .int .i64 (n2 t)] 104)
      have hN := heap_alloc_last y12 (.cells #[.int .i64 t, .int .i64 0, .int .i64 (at1 fx dx t), .int .i64 (at1 fy dy t), .int .i64 (at1 fz dz t), .int .i64 (n0 t), .int .i64 (n1 t), .int .i64 (n2 t)] 104)
      obtain ⟨y13, hy13⟩ : ∃ y, y12.alloc (.cells #[.int .i64 t, .int .i64 0, .int .i64 (at1 fx dx t), .int .i64 (at1 fy dy t), .int .i64 (at1 fz dz t), .int .i64 (n0 t), .int .i64 (n1 t), .int .i64 (n2 t)] 104) = y := ⟨_, rfl⟩
      have hs13 : y13.heap.size = y12.heap.size + 1 := by rw [← hy13]; simp
      rw [hy13] at hb13 hN ⊢
      clear hy13
      have hl13_0 := lt_heap hr12_0
      have hl13_1 := lt_heap hr12_1
      have hl13_2 := lt_heap hr12_2
      have hr13_0 := (hb13.block _ (lt_heap hr12_0)).trans hr12_0
      have hr13_1 := (hb13.block _ (lt_heap hr12_1)).trans hr12_1
      have hr13_2 := (hb13.block _ (lt_heap hr12_2)).trans hr12_2
      have HU13 := Lib.hid (HU12.out.trans (hb13.mono HU12.out.size))
      clear hr12_0 hr12_1 hr12_2 HU12
      have hr13_3 := hN
      clear hN
      have hb0 := HB0.out
      have hb1 := HB1.out
      have c2_0 := cell_of_row _ _ 0 _ _ _ hr13_2
      have c2_1 := cell_of_row _ _ 1 _ _ _ hr13_2
      have c2_2 := cell_of_row _ _ 2 _ _ _ hr13_2
      have c2_3 := cell_of_row _ _ 3 _ _ _ hr13_2
      have c2_4 := cell_of_row _ _ 4 _ _ _ hr13_2
      have c2_5 := cell_of_row _ _ 5 _ _ _ hr13_2
      have c2_6 := cell_of_row _ _ 6 _ _ _ hr13_2
      have c2_7 := cell_of_row _ _ 7 _ _ _ hr13_2
      simp at c2_0 c2_1 c2_2 c2_3 c2_4 c2_5 c2_6 c2_7
      have HWL0 := Lib.hid hr13_0
      have HWZ0 := Lib.hid (show (Try.prog.info? 101).map (·.size) = some (#[.int .i64 fx, .int .i64 fy, .int .i64 fz, .int .i64 dx, .int .i64 dy, .int .i64 dz, .int .i64 pt] : Array Value).size by kernel_rfl)
      have HWL1 := Lib.hid hr13_1
      have HWZ1 := Lib.hid (show (Try.prog.info? 91).map (·.size) = some (#[.int .i64 a0, .int .i64 a1, .int .i64 a2, .int .i64 a3, .int .i64 a4, .int .i64 a5, .int .i64 a6, .int .i64 a7, .int .i64 a8, .int .i64 a9, .int .i64 a10, .int .i64 a11, .int .i64 a12, .int .i64 a13, .int .i64 a14, .int .i64 a15, .int .i64 a16, .int .i64 a17, .int .i64 a18, .int .i64 a19, .int .i64 a20, .int .i64 a21, .int .i64 a22, .int .i64 a23] : Array Value).size by kernel_rfl)
      go_wp2_with (first | (with_reducible refine wpList_load_row rfl 101 (.tmp 11) rfl (gr) rfl 101 #[.int .i64 fx, .int .i64 fy, .int .i64 fz, .int .i64 dx, .int .i64 dy, .int .i64 dz, .int .i64 pt] (0, 0) _ HWL0.out Try.underlying101 rfl HWZ0.out ?_) | (with_reducible refine wpList_load_row rfl 91 (.tmp 12) rfl (gm) rfl 91 #[.int .i64 a0, .int .i64 a1, .int .i64 a2, .int .i64 a3, .int .i64 a4, .int .i64 a5, .int .i64 a6, .int .i64 a7, .int .i64 a8, .int .i64 a9, .int .i64 a10, .int .i64 a11, .int .i64 a12, .int .i64 a13, .int .i64 a14, .int .i64 a15, .int .i64 a16, .int .i64 a17, .int .i64 a18, .int .i64 a19, .int .i64 a20, .int .i64 a21, .int .i64 a22, .int .i64 a23] (0, 0) _ HWL1.out Try.underlying91 rfl HWZ1.out ?_))
      clear HWL0 HWZ0 HWL1 HWZ1
      refine (HT.out _ _ _).mono ?_
      rintro e y14 ⟨rfl, hb14⟩
      clear c2_0 c2_1 c2_2 c2_3 c2_4 c2_5 c2_6 c2_7
      have hr14_0 := (hb14.block _ (lt_heap hr13_0)).trans hr13_0
      have hr14_1 := (hb14.block _ (lt_heap hr13_1)).trans hr13_1
      have hr14_2 := (hb14.block _ (lt_heap hr13_2)).trans hr13_2
      have hr14_3 := (hb14.block _ (lt_heap hr13_3)).trans hr13_3
      have HU14 := Lib.hid (HU13.out.trans (hb14.mono HU13.out.size))
      clear hr13_0 hr13_1 hr13_2 hr13_3 HU13
      rw [HOK.out, first_less HC.out hf (short_less hs1 hs2 hb0 hb1), testR_none]
      go_upto_region 8 with fail
      have hb15 := below_n1 y14 (.cells #[.int .i64 0, .int .i64 0, .int .i64 0, .int .i64 0, .int .i64 0, .int .i64 0, .int .i64 0, .int .i64 0] 104)
      have hN := heap_alloc_last y14 (.cells #[.int .i64 0, .int .i64 0, .int .i64 0, .int .i64 0, .int .i64 0, .int .i64 0, .int .i64 0, .int .i64 0] 104)
      obtain ⟨y15, hy15⟩ : ∃ y, y14.alloc (.cells #[.int .i64 0, .int .i64 0, .int .i64 0, .int .i64 0, .int .i64 0, .int .i64 0, .int .i64 0, .int .i64 0] 104) = y := ⟨_, rfl⟩
      have hs15 : y15.heap.size = y14.heap.size + 1 := by rw [← hy15]; simp
      rw [hy15] at hb15 hN ⊢
      clear hy15
      have hl15_0 := lt_heap hr14_0
      have hl15_1 := lt_heap hr14_1
      have hl15_2 := lt_heap hr14_2
      have hl15_3 := lt_heap hr14_3
      have hr15_0 := (hb15.block _ (lt_heap hr14_0)).trans hr14_0
      have hr15_1 := (hb15.block _ (lt_heap hr14_1)).trans hr14_1
      have hr15_2 := (hb15.block _ (lt_heap hr14_2)).trans hr14_2
      have hr15_3 := (hb15.block _ (lt_heap hr14_3)).trans hr14_3
      have HU15 := Lib.hid (HU14.out.trans (hb15.mono HU14.out.size))
      clear hr14_0 hr14_1 hr14_2 hr14_3 HU14
      have hr15_4 := hN
      clear hN
      have hq := eq_hit
      go_wp2_with fail
      refine (awake_any12 _).mono ?_
      rintro e y16 ⟨rfl, hb16⟩
      have hr16_0 := (hb16.block _ (lt_heap hr15_0)).trans hr15_0
      have hr16_1 := (hb16.block _ (lt_heap hr15_1)).trans hr15_1
      have hr16_2 := (hb16.block _ (lt_heap hr15_2)).trans hr15_2
      have hr16_3 := (hb16.block _ (lt_heap hr15_3)).trans hr15_3
      have hr16_4 := (hb16.block _ (lt_heap hr15_4)).trans hr15_4
      have HU16 := Lib.hid (HU15.out.trans (hb16.mono HU15.out.size))
      clear hr15_0 hr15_1 hr15_2 hr15_3 hr15_4 HU15
      have c2_0 := cell_of_row _ _ 0 _ _ _ hr16_2
      have c2_1 := cell_of_row _ _ 1 _ _ _ hr16_2
      have c2_2 := cell_of_row _ _ 2 _ _ _ hr16_2
      have c2_3 := cell_of_row _ _ 3 _ _ _ hr16_2
      have c2_4 := cell_of_row _ _ 4 _ _ _ hr16_2
      have c2_5 := cell_of_row _ _ 5 _ _ _ hr16_2
      have c2_6 := cell_of_row _ _ 6 _ _ _ hr16_2
      have c2_7 := cell_of_row _ _ 7 _ _ _ hr16_2
      have c3_0 := cell_of_row _ _ 0 _ _ _ hr16_3
      have c3_1 := cell_of_row _ _ 1 _ _ _ hr16_3
      have c3_2 := cell_of_row _ _ 2 _ _ _ hr16_3
      have c3_3 := cell_of_row _ _ 3 _ _ _ hr16_3
      have c3_4 := cell_of_row _ _ 4 _ _ _ hr16_3
      have c3_5 := cell_of_row _ _ 5 _ _ _ hr16_3
      have c3_6 := cell_of_row _ _ 6 _ _ _ hr16_3
      have c3_7 := cell_of_row _ _ 7 _ _ _ hr16_3
      simp at c2_0 c2_1 c2_2 c2_3 c2_4 c2_5 c2_6 c2_7 c3_0 c3_1 c3_2 c3_3 c3_4 c3_5 c3_6 c3_7
      go_wp2
      go_ret
      exact ⟨by simp, HU16.out⟩

end Go.Proofs.Ythlcfhnlkpobhaa.rayNearerW
