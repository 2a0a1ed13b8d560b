/- Jobs: the parts of a scene that are numbers all through, read off a reader, by the program. -/
import Derived.Test.YtplcbdmiccpnnaaGreatC07
import Derived.Test.YtplcbdmiccpnnaaGreatC08
import Derived.Test.YtplcbdmiccpnnaaGreatC22
import Derived.Test.YtplcbdmiccpnnaaGreatC23
namespace Go.Proofs.YtplcbdmiccpnnaaGreat.Jb
open Go.RowKit Go.Proofs.YtplcbdmiccpnnaaGreat Go.Proofs.YtplcbdmiccpnnaaGreat.Rp Go.Proofs.YtplcbdmiccpnnaaGreat.Re Go.Proofs.YtplcbdmiccpnnaaGreat.Au
set_option linter.unusedVariables false
set_option linter.unusedSimpArgs false

theorem aft_setRow {g base k : Nat} {a w : World} (h : Aft g base a w) (hb : a.heap.size ≤ k) (hB : base ≤ k) (R : Array Value) : Aft g base a (w.setRow k R) := by
  have hb2 := below_setRow (g := k) (Below.refl k w) (Nat.le_refl _) R
  refine ⟨hb2.os.trans h.os, hb2.tape.trans h.tape, hb2.output.trans h.output, Nat.le_trans h.size hb2.size, fun i h1 h2 h3 => (setRow_other _ _ _ _ (by omega)).trans (h.block i h1 h2 h3), fun i cs t fr h1 h2 h3 => ?_⟩
  have hi := lt_of_heap h3
  exact (setRow_other _ _ _ _ (by omega)).trans (h.other i cs t fr h1 h2 h3)

theorem rp_setRow {p : Value} {g B k : Nat} {s : St} {w : World} (h : RP p g B s w) (hb : B ≤ k) (R : Array Value) : RP p g B s (w.setRow k R) :=
  h.on (below_setRow (g := k) (Below.refl B w) hb R)

theorem rp_drew {p : Value} {g B : Nat} {s : St} {w : World} (h : RP p g B s w) : RP p g B s w.drew := h.on (Below.refl B w).drew

set_option maxHeartbeats 4000000 in
set_option maxRecDepth 100000 in
theorem jheader (g : Nat) {B : Nat} (s : St) (w : World) (hw : RP (.pointer (some ⟨g, 0, none⟩)) g B s w) (hg : g < w.heap.size) (hB : B ≤ w.heap.size) : Calls Tryz.prog 26 #[.agg #[.pointer (some ⟨g, 0, none⟩)]] w fun e' w' => e' = .returned (.agg #[.int .i64 (((numS (s) 2).1 : Int)), .int .i64 (((numS ((numS (s) 2).2) 2).1 : Int)), .int .i64 (((numS ((numS ((numS (s) 2).2) 2).2) 2).1 : Int)), .int .i64 (((numS ((numS ((numS ((numS (s) 2).2) 2).2) 2).2) 2).1 : Int)), .int .i64 (((numS ((numS ((numS ((numS ((numS (s) 2).2) 2).2) 2).2) 2).2) 2).1 : Int)), .int .i64 (fixS ((numS ((numS ((numS ((numS ((numS (s) 2).2) 2).2) 2).2) 2).2) 2).2)).1, .int .u64 (((numS ((fixS ((numS ((numS ((numS ((numS ((numS (s) 2).2) 2).2) 2).2) 2).2) 2).2)).2) 8).1 : Int)), .int .i64 ((threeS ((numS ((fixS ((numS ((numS ((numS ((numS ((numS (s) 2).2) 2).2) 2).2) 2).2) 2).2)).2) 8).2)).1 0), .int .i64 ((threeS ((numS ((fixS ((numS ((numS ((numS ((numS ((numS (s) 2).2) 2).2) 2).2) 2).2) 2).2)).2) 8).2)).1 1), .int .i64 ((threeS ((numS ((fixS ((numS ((numS ((numS ((numS ((numS (s) 2).2) 2).2) 2).2) 2).2) 2).2)).2) 8).2)).1 2)]) ∧ RP (.pointer (some ⟨g, 0, none⟩)) g B ((threeS ((numS ((fixS ((numS ((numS ((numS ((numS ((numS (s) 2).2) 2).2) 2).2) 2).2) 2).2)).2) 8).2)).2) w' ∧ Aft g w.heap.size w w' := by
  have HPw := Lib.hid hw
  clear hw
  go_enter Tryz.func26, Tryz.ntmps26
  go_upto_region 1 with fail
  have hR := Au.rows2 w (.cells #[.pointer (some ⟨g, 0, none⟩)] 59) (.cells #[.int .i64 0, .int .i64 0, .int .i64 0, .int .i64 0, .int .i64 0, .int .i64 0, .int .u64 0, .int .i64 0, .int .i64 0, .int .i64 0] 28)
  have HUx := Ve.below_n2 w (.cells #[.pointer (some ⟨g, 0, none⟩)] 59) (.cells #[.int .i64 0, .int .i64 0, .int .i64 0, .int .i64 0, .int .i64 0, .int .i64 0, .int .u64 0, .int .i64 0, .int .i64 0, .int .i64 0] 28)
  obtain ⟨y0, hy0⟩ : ∃ y0, (w.alloc (.cells #[.pointer (some ⟨g, 0, none⟩)] 59)).alloc (.cells #[.int .i64 0, .int .i64 0, .int .i64 0, .int .i64 0, .int .i64 0, .int .i64 0, .int .u64 0, .int .i64 0, .int .i64 0, .int .i64 0] 28) = y0 := ⟨_, rfl⟩
  rw [hy0] at hR HUx ⊢
  clear hy0
  have HP0 := Lib.hid (HPw.out.new HUx)
  have hz0 := HUx.size
  have HU0 := Lib.hid (Aft.of (g := g) (base := w.heap.size) HUx)
  clear HUx
  obtain ⟨hr0_0, hr0_1⟩ := hR
  refine wp_region_held_drew (S := fun y => y.heap[w.heap.size]? = some (.cells #[.pointer (some ⟨g, 0, none⟩)] 59 (0, 0))) (by kernel_rfl) (hr0_0) (fun hS0 => ?_)
  obtain ⟨y1, hy1⟩ : ∃ y, y0.drew = y := ⟨_, rfl⟩
  have HU1 := Lib.hid (show Aft g w.heap.size w y1 by rw [← hy1]; exact HU0.out.drew)
  have HP1 := Lib.hid (show RP (.pointer (some ⟨g, 0, none⟩)) g B _ y1 by rw [← hy1]; exact rp_drew HP0.out)
  have hz1 := HU1.out.size
  have hr1_0 : y1.heap[w.heap.size]? = some (.cells #[.pointer (some ⟨g, 0, none⟩)] 59 (0, 0)) := by rw [← hy1]; exact hr0_0
  have hr1_1 : y1.heap[w.heap.size + 1]? = some (.cells #[.int .i64 0, .int .i64 0, .int .i64 0, .int .i64 0, .int .i64 0, .int .i64 0, .int .u64 0, .int .i64 0, .int .i64 0, .int .i64 0] 28 (0, 0)) := by rw [← hy1]; exact hr0_1
  rw [hy1] at hS0 ⊢
  clear hy1
  refine wpAnyH_take (i := 0) (v := ?_) rfl (by kernel_rfl) (by kernel_rfl) (by kernel_rfl) (fun _ _ _ h => h) (Or.inl ⟨by kernel_rfl, by (intro wz hSz; go_simp; try with_reducible rfl)⟩) hS0 ?_
  go_simp
  refine wpAnyH_take (i := 1) (v := ?_) rfl (by kernel_rfl) (by kernel_rfl) (by kernel_rfl) (fun _ _ _ h => h) (Or.inl ⟨by kernel_rfl, by (intro wz hSz; have c0_0 := cell_of_row _ _ 0 _ _ _ hSz; simp at c0_0; go_simp; try with_reducible rfl)⟩) hS0 ?_
  go_simp
  refine wpAnyH_take (i := 3) (v := ?_) rfl (by kernel_rfl) (by kernel_rfl) (by kernel_rfl) (fun _ _ _ h => h) (Or.inl ⟨by kernel_rfl, by (intro wz hSz; go_simp; try with_reducible rfl)⟩) hS0 ?_
  go_simp
  refine wpAnyH_take (i := 4) (v := ?_) rfl (by kernel_rfl) (by kernel_rfl) (by kernel_rfl) (fun _ _ _ h => h) (Or.inl ⟨by kernel_rfl, by (intro wz hSz; have c0_0 := cell_of_row _ _ 0 _ _ _ hSz; simp at c0_0; go_simp; try with_reducible rfl)⟩) hS0 ?_
  go_simp
  refine wpAnyH_take (i := 6) (v := ?_) rfl (by kernel_rfl) (by kernel_rfl) (by kernel_rfl) (fun _ _ _ h => h) (Or.inl ⟨by kernel_rfl, by (intro wz hSz; go_simp; try with_reducible rfl)⟩) hS0 ?_
  go_simp
  refine wpAnyH_take (i := 7) (v := ?_) rfl (by kernel_rfl) (by kernel_rfl) (by kernel_rfl) (fun _ _ _ h => h) (Or.inl ⟨by kernel_rfl, by (intro wz hSz; have c0_0 := cell_of_row _ _ 0 _ _ _ hSz; simp at c0_0; go_simp; try with_reducible rfl)⟩) hS0 ?_
  go_simp
  refine wpAnyH_take (i := 9) (v := ?_) rfl (by kernel_rfl) (by kernel_rfl) (by kernel_rfl) (fun _ _ _ h => h) (Or.inl ⟨by kernel_rfl, by (intro wz hSz; go_simp; try with_reducible rfl)⟩) hS0 ?_
  go_simp
  refine wpAnyH_take (i := 10) (v := ?_) rfl (by kernel_rfl) (by kernel_rfl) (by kernel_rfl) (fun _ _ _ h => h) (Or.inl ⟨by kernel_rfl, by (intro wz hSz; have c0_0 := cell_of_row _ _ 0 _ _ _ hSz; simp at c0_0; go_simp; try with_reducible rfl)⟩) hS0 ?_
  go_simp
  refine wpAnyH_take (i := 12) (v := ?_) rfl (by kernel_rfl) (by kernel_rfl) (by kernel_rfl) (fun _ _ _ h => h) (Or.inl ⟨by kernel_rfl, by (intro wz hSz; go_simp; try with_reducible rfl)⟩) hS0 ?_
  go_simp
  refine wpAnyH_take (i := 13) (v := ?_) rfl (by kernel_rfl) (by kernel_rfl) (by kernel_rfl) (fun _ _ _ h => h) (Or.inl ⟨by kernel_rfl, by (intro wz hSz; have c0_0 := cell_of_row _ _ 0 _ _ _ hSz; simp at c0_0; go_simp; try with_reducible rfl)⟩) hS0 ?_
  go_simp
  refine wpAnyH_take (i := 15) (v := ?_) rfl (by kernel_rfl) (by kernel_rfl) (by kernel_rfl) (fun _ _ _ h => h) (Or.inl ⟨by kernel_rfl, by (intro wz hSz; go_simp; try with_reducible rfl)⟩) hS0 ?_
  go_simp
  refine wpAnyH_take (i := 16) (v := ?_) rfl (by kernel_rfl) (by kernel_rfl) (by kernel_rfl) (fun _ _ _ h => h) (Or.inl ⟨by kernel_rfl, by (intro wz hSz; have c0_0 := cell_of_row _ _ 0 _ _ _ hSz; simp at c0_0; go_simp; try with_reducible rfl)⟩) hS0 ?_
  go_simp
  refine wpAnyH_take (i := 18) (v := ?_) rfl (by kernel_rfl) (by kernel_rfl) (by kernel_rfl) (fun _ _ _ h => h) (Or.inl ⟨by kernel_rfl, by (intro wz hSz; go_simp; try with_reducible rfl)⟩) hS0 ?_
  go_simp
  refine wpAnyH_take (i := 19) (v := ?_) rfl (by kernel_rfl) (by kernel_rfl) (by kernel_rfl) (fun _ _ _ h => h) (Or.inl ⟨by kernel_rfl, by (intro wz hSz; have c0_0 := cell_of_row _ _ 0 _ _ _ hSz; simp at c0_0; go_simp; try with_reducible rfl)⟩) hS0 ?_
  go_simp
  refine wpAnyH_take (i := 21) (v := ?_) rfl (by kernel_rfl) (by kernel_rfl) (by kernel_rfl) (fun _ _ _ h => h) (Or.inl ⟨by kernel_rfl, by (intro wz hSz; go_simp; try with_reducible rfl)⟩) hS0 ?_
  go_simp
  refine wpAnyH_take (i := 22) (v := ?_) rfl (by kernel_rfl) (by kernel_rfl) (by kernel_rfl) (fun _ _ _ h => h) (Or.inl ⟨by kernel_rfl, by (intro wz hSz; have c0_0 := cell_of_row _ _ 0 _ _ _ hSz; simp at c0_0; go_simp; try with_reducible rfl)⟩) hS0 ?_
  go_simp
  refine wpAnyH_ready (rs := [2]) (by kernel_rfl) (by simp) ?_
  refine AllReadyH.cons rfl (fun K hK => ?_) AllReadyH.nil
  go_simp
  go_wp2_with (go_at_call 61; refine (rhalf_any _ g (s) _ HP1.out).mono ?_; rintro e y2 ⟨rfl, hp2, hb2⟩)
  have HP2 := Lib.hid hp2
  have hz2 := hb2.size
  have hr2_0 := (hb2.block _ (lt_heap hr1_0) (lt_heap hr1_0) (by omega)).trans hr1_0
  have hr2_1 := (hb2.block _ (lt_heap hr1_1) (lt_heap hr1_1) (by omega)).trans hr1_1
  have HU2 := Lib.hid (HU1.out.trans (hb2.mono HU1.out.size))
  refine hK.out _ _ ((hb2.block _ (lt_heap hS0) (lt_heap hS0) (by omega)).trans hS0) (fun hS2c => ?_)
  clear hK K
  refine wpAnyH_ready (rs := [5]) (by kernel_rfl) (by simp) ?_
  refine AllReadyH.cons rfl (fun K hK => ?_) AllReadyH.nil
  go_simp
  go_wp2_with (go_at_call 61; refine (rhalf_any _ g ((numS (s) 2).2) _ HP2.out).mono ?_; rintro e y3 ⟨rfl, hp3, hb3⟩)
  have HP3 := Lib.hid hp3
  have hz3 := hb3.size
  have hr3_0 := (hb3.block _ (lt_heap hr2_0) (lt_heap hr2_0) (by omega)).trans hr2_0
  have hr3_1 := (hb3.block _ (lt_heap hr2_1) (lt_heap hr2_1) (by omega)).trans hr2_1
  have HU3 := Lib.hid (HU2.out.trans (hb3.mono HU2.out.size))
  refine hK.out _ _ ((hb3.block _ (lt_heap hS2c) (lt_heap hS2c) (by omega)).trans hS2c) (fun hS3c => ?_)
  clear hK K
  refine wpAnyH_ready (rs := [8]) (by kernel_rfl) (by simp) ?_
  refine AllReadyH.cons rfl (fun K hK => ?_) AllReadyH.nil
  go_simp
  go_wp2_with (go_at_call 61; refine (rhalf_any _ g ((numS ((numS (s) 2).2) 2).2) _ HP3.out).mono ?_; rintro e y4 ⟨rfl, hp4, hb4⟩)
  have HP4 := Lib.hid hp4
  have hz4 := hb4.size
  have hr4_0 := (hb4.block _ (lt_heap hr3_0) (lt_heap hr3_0) (by omega)).trans hr3_0
  have hr4_1 := (hb4.block _ (lt_heap hr3_1) (lt_heap hr3_1) (by omega)).trans hr3_1
  have HU4 := Lib.hid (HU3.out.trans (hb4.mono HU3.out.size))
  refine hK.out _ _ ((hb4.block _ (lt_heap hS3c) (lt_heap hS3c) (by omega)).trans hS3c) (fun hS4c => ?_)
  clear hK K
  refine wpAnyH_ready (rs := [11]) (by kernel_rfl) (by simp) ?_
  refine AllReadyH.cons rfl (fun K hK => ?_) AllReadyH.nil
  go_simp
  go_wp2_with (go_at_call 61; refine (rhalf_any _ g ((numS ((numS ((numS (s) 2).2) 2).2) 2).2) _ HP4.out).mono ?_; rintro e y5 ⟨rfl, hp5, hb5⟩)
  have HP5 := Lib.hid hp5
  have hz5 := hb5.size
  have hr5_0 := (hb5.block _ (lt_heap hr4_0) (lt_heap hr4_0) (by omega)).trans hr4_0
  have hr5_1 := (hb5.block _ (lt_heap hr4_1) (lt_heap hr4_1) (by omega)).trans hr4_1
  have HU5 := Lib.hid (HU4.out.trans (hb5.mono HU4.out.size))
  refine hK.out _ _ ((hb5.block _ (lt_heap hS4c) (lt_heap hS4c) (by omega)).trans hS4c) (fun hS5c => ?_)
  clear hK K
  refine wpAnyH_ready (rs := [14]) (by kernel_rfl) (by simp) ?_
  refine AllReadyH.cons rfl (fun K hK => ?_) AllReadyH.nil
  go_simp
  go_wp2_with (go_at_call 61; refine (rhalf_any _ g ((numS ((numS ((numS ((numS (s) 2).2) 2).2) 2).2) 2).2) _ HP5.out).mono ?_; rintro e y6 ⟨rfl, hp6, hb6⟩)
  have HP6 := Lib.hid hp6
  have hz6 := hb6.size
  have hr6_0 := (hb6.block _ (lt_heap hr5_0) (lt_heap hr5_0) (by omega)).trans hr5_0
  have hr6_1 := (hb6.block _ (lt_heap hr5_1) (lt_heap hr5_1) (by omega)).trans hr5_1
  have HU6 := Lib.hid (HU5.out.trans (hb6.mono HU5.out.size))
  refine hK.out _ _ ((hb6.block _ (lt_heap hS5c) (lt_heap hS5c) (by omega)).trans hS5c) (fun hS6c => ?_)
  clear hK K
  refine wpAnyH_ready (rs := [17]) (by kernel_rfl) (by simp) ?_
  refine AllReadyH.cons rfl (fun K hK => ?_) AllReadyH.nil
  go_simp
  go_wp2_with (go_at_call 62; refine (rfix_any _ g ((numS ((numS ((numS ((numS ((numS (s) 2).2) 2).2) 2).2) 2).2) 2).2) _ HP6.out).mono ?_; rintro e y7 ⟨rfl, hp7, hb7⟩)
  have HP7 := Lib.hid hp7
  have hz7 := hb7.size
  have hr7_0 := (hb7.block _ (lt_heap hr6_0) (lt_heap hr6_0) (by omega)).trans hr6_0
  have hr7_1 := (hb7.block _ (lt_heap hr6_1) (lt_heap hr6_1) (by omega)).trans hr6_1
  have HU7 := Lib.hid (HU6.out.trans (hb7.mono HU6.out.size))
  refine hK.out _ _ ((hb7.block _ (lt_heap hS6c) (lt_heap hS6c) (by omega)).trans hS6c) (fun hS7c => ?_)
  clear hK K
  refine wpAnyH_ready (rs := [20]) (by kernel_rfl) (by simp) ?_
  refine AllReadyH.cons rfl (fun K hK => ?_) AllReadyH.nil
  go_simp
  go_wp2_with (go_at_call 63; refine (rlong_any _ g ((fixS ((numS ((numS ((numS ((numS ((numS (s) 2).2) 2).2) 2).2) 2).2) 2).2)).2) _ HP7.out).mono ?_; rintro e y8 ⟨rfl, hp8, hb8⟩)
  have HP8 := Lib.hid hp8
  have hz8 := hb8.size
  have hr8_0 := (hb8.block _ (lt_heap hr7_0) (lt_heap hr7_0) (by omega)).trans hr7_0
  have hr8_1 := (hb8.block _ (lt_heap hr7_1) (lt_heap hr7_1) (by omega)).trans hr7_1
  have HU8 := Lib.hid (HU7.out.trans (hb8.mono HU7.out.size))
  refine hK.out _ _ ((hb8.block _ (lt_heap hS7c) (lt_heap hS7c) (by omega)).trans hS7c) (fun hS8c => ?_)
  clear hK K
  refine wpAnyH_ready (rs := [23]) (by kernel_rfl) (by simp) ?_
  refine AllReadyH.cons rfl (fun K hK => ?_) AllReadyH.nil
  go_simp
  go_wp2_with (go_at_call 64; refine (rhue_any _ g ((numS ((fixS ((numS ((numS ((numS ((numS ((numS (s) 2).2) 2).2) 2).2) 2).2) 2).2)).2) 8).2) _ HP8.out (by omega) (by omega)).mono ?_; rintro e y9 ⟨rfl, hp9, hb9⟩)
  have HP9 := Lib.hid hp9
  have hz9 := hb9.size
  have hr9_0 := (hb9.block _ (lt_heap hr8_0) (lt_heap hr8_0) (by omega)).trans hr8_0
  have hr9_1 := (hb9.block _ (lt_heap hr8_1) (lt_heap hr8_1) (by omega)).trans hr8_1
  have HU9 := Lib.hid (HU8.out.trans (hb9.mono HU8.out.size))
  refine hK.out _ _ ((hb9.block _ (lt_heap hS8c) (lt_heap hS8c) (by omega)).trans hS8c) (fun hS9c => ?_)
  clear hK K
  refine wpAnyH_take (i := 24) (v := ?_) rfl (by kernel_rfl) (by kernel_rfl) (by kernel_rfl) (fun _ _ _ h => h) (Or.inl ⟨by kernel_rfl, by (intro wz hSz; go_simp; try with_reducible rfl)⟩) hS9c ?_
  go_simp
  refine wpAnyH_ready (rs := [25]) (by kernel_rfl) (by simp) ?_
  refine AllReadyH.cons rfl (fun K hK => ?_) AllReadyH.nil
  refine step_store_row rfl 28 (.tmp 2) (.tmp 27) rfl #[.int .i64 0, .int .i64 0, .int .i64 0, .int .i64 0, .int .i64 0, .int .i64 0, .int .u64 0, .int .i64 0, .int .i64 0, .int .i64 0] #[.int .i64 (((numS (s) 2).1 : Int)), .int .i64 (((numS ((numS (s) 2).2) 2).1 : Int)), .int .i64 (((numS ((numS ((numS (s) 2).2) 2).2) 2).1 : Int)), .int .i64 (((numS ((numS ((numS ((numS (s) 2).2) 2).2) 2).2) 2).1 : Int)), .int .i64 (((numS ((numS ((numS ((numS ((numS (s) 2).2) 2).2) 2).2) 2).2) 2).1 : Int)), .int .i64 (fixS ((numS ((numS ((numS ((numS ((numS (s) 2).2) 2).2) 2).2) 2).2) 2).2)).1, .int .u64 (((numS ((fixS ((numS ((numS ((numS ((numS ((numS (s) 2).2) 2).2) 2).2) 2).2) 2).2)).2) 8).1 : Int)), .int .i64 ((threeS ((numS ((fixS ((numS ((numS ((numS ((numS ((numS (s) 2).2) 2).2) 2).2) 2).2) 2).2)).2) 8).2)).1 0), .int .i64 ((threeS ((numS ((fixS ((numS ((numS ((numS ((numS ((numS (s) 2).2) 2).2) 2).2) 2).2) 2).2)).2) 8).2)).1 1), .int .i64 ((threeS ((numS ((fixS ((numS ((numS ((numS ((numS ((numS (s) 2).2) 2).2) 2).2) 2).2) 2).2)).2) 8).2)).1 2)] _ 28 hr9_1 rfl (by first | rfl | (go_simp; done) | (go_simp; rfl)) (by kernel_rfl) rfl (by simp [Value.oneCell']) ?_
  have hN := setRow_heap _ (w.heap.size + 1) _ #[.int .i64 (((numS (s) 2).1 : Int)), .int .i64 (((numS ((numS (s) 2).2) 2).1 : Int)), .int .i64 (((numS ((numS ((numS (s) 2).2) 2).2) 2).1 : Int)), .int .i64 (((numS ((numS ((numS ((numS (s) 2).2) 2).2) 2).2) 2).1 : Int)), .int .i64 (((numS ((numS ((numS ((numS ((numS (s) 2).2) 2).2) 2).2) 2).2) 2).1 : Int)), .int .i64 (fixS ((numS ((numS ((numS ((numS ((numS (s) 2).2) 2).2) 2).2) 2).2) 2).2)).1, .int .u64 (((numS ((fixS ((numS ((numS ((numS ((numS ((numS (s) 2).2) 2).2) 2).2) 2).2) 2).2)).2) 8).1 : Int)), .int .i64 ((threeS ((numS ((fixS ((numS ((numS ((numS ((numS ((numS (s) 2).2) 2).2) 2).2) 2).2) 2).2)).2) 8).2)).1 0), .int .i64 ((threeS ((numS ((fixS ((numS ((numS ((numS ((numS ((numS (s) 2).2) 2).2) 2).2) 2).2) 2).2)).2) 8).2)).1 1), .int .i64 ((threeS ((numS ((fixS ((numS ((numS ((numS ((numS ((numS (s) 2).2) 2).2) 2).2) 2).2) 2).2)).2) 8).2)).1 2)] _ _ hr9_1
  have hsz := HU9.out.size
  have HUx := aft_setRow (k := w.heap.size + 1) HU9.out (by omega) (by omega) #[.int .i64 (((numS (s) 2).1 : Int)), .int .i64 (((numS ((numS (s) 2).2) 2).1 : Int)), .int .i64 (((numS ((numS ((numS (s) 2).2) 2).2) 2).1 : Int)), .int .i64 (((numS ((numS ((numS ((numS (s) 2).2) 2).2) 2).2) 2).1 : Int)), .int .i64 (((numS ((numS ((numS ((numS ((numS (s) 2).2) 2).2) 2).2) 2).2) 2).1 : Int)), .int .i64 (fixS ((numS ((numS ((numS ((numS ((numS (s) 2).2) 2).2) 2).2) 2).2) 2).2)).1, .int .u64 (((numS ((fixS ((numS ((numS ((numS ((numS ((numS (s) 2).2) 2).2) 2).2) 2).2) 2).2)).2) 8).1 : Int)), .int .i64 ((threeS ((numS ((fixS ((numS ((numS ((numS ((numS ((numS (s) 2).2) 2).2) 2).2) 2).2) 2).2)).2) 8).2)).1 0), .int .i64 ((threeS ((numS ((fixS ((numS ((numS ((numS ((numS ((numS (s) 2).2) 2).2) 2).2) 2).2) 2).2)).2) 8).2)).1 1), .int .i64 ((threeS ((numS ((fixS ((numS ((numS ((numS ((numS ((numS (s) 2).2) 2).2) 2).2) 2).2) 2).2)).2) 8).2)).1 2)]
  have hPx := rp_setRow (k := w.heap.size + 1) HP9.out (by omega) #[.int .i64 (((numS (s) 2).1 : Int)), .int .i64 (((numS ((numS (s) 2).2) 2).1 : Int)), .int .i64 (((numS ((numS ((numS (s) 2).2) 2).2) 2).1 : Int)), .int .i64 (((numS ((numS ((numS ((numS (s) 2).2) 2).2) 2).2) 2).1 : Int)), .int .i64 (((numS ((numS ((numS ((numS ((numS (s) 2).2) 2).2) 2).2) 2).2) 2).1 : Int)), .int .i64 (fixS ((numS ((numS ((numS ((numS ((numS (s) 2).2) 2).2) 2).2) 2).2) 2).2)).1, .int .u64 (((numS ((fixS ((numS ((numS ((numS ((numS ((numS (s) 2).2) 2).2) 2).2) 2).2) 2).2)).2) 8).1 : Int)), .int .i64 ((threeS ((numS ((fixS ((numS ((numS ((numS ((numS ((numS (s) 2).2) 2).2) 2).2) 2).2) 2).2)).2) 8).2)).1 0), .int .i64 ((threeS ((numS ((fixS ((numS ((numS ((numS ((numS ((numS (s) 2).2) 2).2) 2).2) 2).2) 2).2)).2) 8).2)).1 1), .int .i64 ((threeS ((numS ((fixS ((numS ((numS ((numS ((numS ((numS (s) 2).2) 2).2) 2).2) 2).2) 2).2)).2) 8).2)).1 2)]
  obtain ⟨y10, hy10⟩ : ∃ y, y9.setRow (w.heap.size + 1) #[.int .i64 (((numS (s) 2).1 : Int)), .int .i64 (((numS ((numS (s) 2).2) 2).1 : Int)), .int .i64 (((numS ((numS ((numS (s) 2).2) 2).2) 2).1 : Int)), .int .i64 (((numS ((numS ((numS ((numS (s) 2).2) 2).2) 2).2) 2).1 : Int)), .int .i64 (((numS ((numS ((numS ((numS ((numS (s) 2).2) 2).2) 2).2) 2).2) 2).1 : Int)), .int .i64 (fixS ((numS ((numS ((numS ((numS ((numS (s) 2).2) 2).2) 2).2) 2).2) 2).2)).1, .int .u64 (((numS ((fixS ((numS ((numS ((numS ((numS ((numS (s) 2).2) 2).2) 2).2) 2).2) 2).2)).2) 8).1 : Int)), .int .i64 ((threeS ((numS ((fixS ((numS ((numS ((numS ((numS ((numS (s) 2).2) 2).2) 2).2) 2).2) 2).2)).2) 8).2)).1 0), .int .i64 ((threeS ((numS ((fixS ((numS ((numS ((numS ((numS ((numS (s) 2).2) 2).2) 2).2) 2).2) 2).2)).2) 8).2)).1 1), .int .i64 ((threeS ((numS ((fixS ((numS ((numS ((numS ((numS ((numS (s) 2).2) 2).2) 2).2) 2).2) 2).2)).2) 8).2)).1 2)] = y := ⟨_, rfl⟩
  have hO : ∀ k, k ≠ w.heap.size + 1 → y10.heap[k]? = y9.heap[k]? := fun k hk => by rw [← hy10]; exact setRow_other _ _ _ _ hk
  rw [hy10] at hN HUx hPx ⊢
  clear hy10
  have HU10 := Lib.hid HUx
  clear HUx
  have HP10 := Lib.hid hPx
  have hz10 := HU10.out.size
  have hr10_0 := (hO _ (by omega)).trans hr9_0
  have hr10_1 := hN
  clear hN
  refine hK.out _ _ ((hO _ (by omega)).trans hS9c) (fun hS10s => ?_)
  clear hK K
  refine wpAnyH_done (by kernel_rfl) ?_ _
  have c1_0 := cell_of_row _ _ 0 _ _ _ hr10_1
  have c1_1 := cell_of_row _ _ 1 _ _ _ hr10_1
  have c1_2 := cell_of_row _ _ 2 _ _ _ hr10_1
  have c1_3 := cell_of_row _ _ 3 _ _ _ hr10_1
  have c1_4 := cell_of_row _ _ 4 _ _ _ hr10_1
  have c1_5 := cell_of_row _ _ 5 _ _ _ hr10_1
  have c1_6 := cell_of_row _ _ 6 _ _ _ hr10_1
  have c1_7 := cell_of_row _ _ 7 _ _ _ hr10_1
  have c1_8 := cell_of_row _ _ 8 _ _ _ hr10_1
  have c1_9 := cell_of_row _ _ 9 _ _ _ hr10_1
  simp at c1_0 c1_1 c1_2 c1_3 c1_4 c1_5 c1_6 c1_7 c1_8 c1_9
  go_wp2
  exact bodyPost_ret (v := .agg #[.int .i64 (((numS (s) 2).1 : Int)), .int .i64 (((numS ((numS (s) 2).2) 2).1 : Int)), .int .i64 (((numS ((numS ((numS (s) 2).2) 2).2) 2).1 : Int)), .int .i64 (((numS ((numS ((numS ((numS (s) 2).2) 2).2) 2).2) 2).1 : Int)), .int .i64 (((numS ((numS ((numS ((numS ((numS (s) 2).2) 2).2) 2).2) 2).2) 2).1 : Int)), .int .i64 (fixS ((numS ((numS ((numS ((numS ((numS (s) 2).2) 2).2) 2).2) 2).2) 2).2)).1, .int .u64 (((numS ((fixS ((numS ((numS ((numS ((numS ((numS (s) 2).2) 2).2) 2).2) 2).2) 2).2)).2) 8).1 : Int)), .int .i64 ((threeS ((numS ((fixS ((numS ((numS ((numS ((numS ((numS (s) 2).2) 2).2) 2).2) 2).2) 2).2)).2) 8).2)).1 0), .int .i64 ((threeS ((numS ((fixS ((numS ((numS ((numS ((numS ((numS (s) 2).2) 2).2) 2).2) 2).2) 2).2)).2) 8).2)).1 1), .int .i64 ((threeS ((numS ((fixS ((numS ((numS ((numS ((numS ((numS (s) 2).2) 2).2) 2).2) 2).2) 2).2)).2) 8).2)).1 2)]) (by simp [results, Tryz.results26, go_sem, c1_0, c1_1, c1_2, c1_3, c1_4, c1_5, c1_6, c1_7, c1_8, c1_9]) rfl ⟨rfl, HP10.out, HU10.out⟩

set_option maxHeartbeats 4000000 in
set_option maxRecDepth 100000 in
theorem jlens (g : Nat) {B : Nat} (s : St) (w : World) (hw : RP (.pointer (some ⟨g, 0, none⟩)) g B s w) (hg : g < w.heap.size) (hB : B ≤ w.heap.size) : Calls Tryz.prog 27 #[.agg #[.pointer (some ⟨g, 0, none⟩)]] w fun e' w' => e' = .returned (.agg #[.int .i64 (((numS (s) 2).1 : Int)), .int .i64 (((numS ((numS (s) 2).2) 2).1 : Int)), .int .i64 (fixS ((numS ((numS (s) 2).2) 2).2)).1]) ∧ RP (.pointer (some ⟨g, 0, none⟩)) g B ((fixS ((numS ((numS (s) 2).2) 2).2)).2) w' ∧ Aft g w.heap.size w w' := by
  have HPw := Lib.hid hw
  clear hw
  go_enter Tryz.func27, Tryz.ntmps27
  go_upto_region 1 with fail
  have hR := Au.rows2 w (.cells #[.pointer (some ⟨g, 0, none⟩)] 59) (.cells #[.int .i64 0, .int .i64 0, .int .i64 0] 30)
  have HUx := Ve.below_n2 w (.cells #[.pointer (some ⟨g, 0, none⟩)] 59) (.cells #[.int .i64 0, .int .i64 0, .int .i64 0] 30)
  obtain ⟨y0, hy0⟩ : ∃ y0, (w.alloc (.cells #[.pointer (some ⟨g, 0, none⟩)] 59)).alloc (.cells #[.int .i64 0, .int .i64 0, .int .i64 0] 30) = y0 := ⟨_, rfl⟩
  rw [hy0] at hR HUx ⊢
  clear hy0
  have HP0 := Lib.hid (HPw.out.new HUx)
  have hz0 := HUx.size
  have HU0 := Lib.hid (Aft.of (g := g) (base := w.heap.size) HUx)
  clear HUx
  obtain ⟨hr0_0, hr0_1⟩ := hR
  refine wp_region_held_drew (S := fun y => y.heap[w.heap.size]? = some (.cells #[.pointer (some ⟨g, 0, none⟩)] 59 (0, 0))) (by kernel_rfl) (hr0_0) (fun hS0 => ?_)
  obtain ⟨y1, hy1⟩ : ∃ y, y0.drew = y := ⟨_, rfl⟩
  have HU1 := Lib.hid (show Aft g w.heap.size w y1 by rw [← hy1]; exact HU0.out.drew)
  have HP1 := Lib.hid (show RP (.pointer (some ⟨g, 0, none⟩)) g B _ y1 by rw [← hy1]; exact rp_drew HP0.out)
  have hz1 := HU1.out.size
  have hr1_0 : y1.heap[w.heap.size]? = some (.cells #[.pointer (some ⟨g, 0, none⟩)] 59 (0, 0)) := by rw [← hy1]; exact hr0_0
  have hr1_1 : y1.heap[w.heap.size + 1]? = some (.cells #[.int .i64 0, .int .i64 0, .int .i64 0] 30 (0, 0)) := by rw [← hy1]; exact hr0_1
  rw [hy1] at hS0 ⊢
  clear hy1
  refine wpAnyH_take (i := 0) (v := ?_) rfl (by kernel_rfl) (by kernel_rfl) (by kernel_rfl) (fun _ _ _ h => h) (Or.inl ⟨by kernel_rfl, by (intro wz hSz; go_simp; try with_reducible rfl)⟩) hS0 ?_
  go_simp
  refine wpAnyH_take (i := 1) (v := ?_) rfl (by kernel_rfl) (by kernel_rfl) (by kernel_rfl) (fun _ _ _ h => h) (Or.inl ⟨by kernel_rfl, by (intro wz hSz; have c0_0 := cell_of_row _ _ 0 _ _ _ hSz; simp at c0_0; go_simp; try with_reducible rfl)⟩) hS0 ?_
  go_simp
  refine wpAnyH_take (i := 3) (v := ?_) rfl (by kernel_rfl) (by kernel_rfl) (by kernel_rfl) (fun _ _ _ h => h) (Or.inl ⟨by kernel_rfl, by (intro wz hSz; go_simp; try with_reducible rfl)⟩) hS0 ?_
  go_simp
  refine wpAnyH_take (i := 4) (v := ?_) rfl (by kernel_rfl) (by kernel_rfl) (by kernel_rfl) (fun _ _ _ h => h) (Or.inl ⟨by kernel_rfl, by (intro wz hSz; have c0_0 := cell_of_row _ _ 0 _ _ _ hSz; simp at c0_0; go_simp; try with_reducible rfl)⟩) hS0 ?_
  go_simp
  refine wpAnyH_take (i := 6) (v := ?_) rfl (by kernel_rfl) (by kernel_rfl) (by kernel_rfl) (fun _ _ _ h => h) (Or.inl ⟨by kernel_rfl, by (intro wz hSz; go_simp; try with_reducible rfl)⟩) hS0 ?_
  go_simp
  refine wpAnyH_take (i := 7) (v := ?_) rfl (by kernel_rfl) (by kernel_rfl) (by kernel_rfl) (fun _ _ _ h => h) (Or.inl ⟨by kernel_rfl, by (intro wz hSz; have c0_0 := cell_of_row _ _ 0 _ _ _ hSz; simp at c0_0; go_simp; try with_reducible rfl)⟩) hS0 ?_
  go_simp
  refine wpAnyH_ready (rs := [2]) (by kernel_rfl) (by simp) ?_
  refine AllReadyH.cons rfl (fun K hK => ?_) AllReadyH.nil
  go_simp
  go_wp2_with (go_at_call 61; refine (rhalf_any _ g (s) _ HP1.out).mono ?_; rintro e y2 ⟨rfl, hp2, hb2⟩)
  have HP2 := Lib.hid hp2
  have hz2 := hb2.size
  have hr2_0 := (hb2.block _ (lt_heap hr1_0) (lt_heap hr1_0) (by omega)).trans hr1_0
  have hr2_1 := (hb2.block _ (lt_heap hr1_1) (lt_heap hr1_1) (by omega)).trans hr1_1
  have HU2 := Lib.hid (HU1.out.trans (hb2.mono HU1.out.size))
  refine hK.out _ _ ((hb2.block _ (lt_heap hS0) (lt_heap hS0) (by omega)).trans hS0) (fun hS2c => ?_)
  clear hK K
  refine wpAnyH_ready (rs := [5]) (by kernel_rfl) (by simp) ?_
  refine AllReadyH.cons rfl (fun K hK => ?_) AllReadyH.nil
  go_simp
  go_wp2_with (go_at_call 61; refine (rhalf_any _ g ((numS (s) 2).2) _ HP2.out).mono ?_; rintro e y3 ⟨rfl, hp3, hb3⟩)
  have HP3 := Lib.hid hp3
  have hz3 := hb3.size
  have hr3_0 := (hb3.block _ (lt_heap hr2_0) (lt_heap hr2_0) (by omega)).trans hr2_0
  have hr3_1 := (hb3.block _ (lt_heap hr2_1) (lt_heap hr2_1) (by omega)).trans hr2_1
  have HU3 := Lib.hid (HU2.out.trans (hb3.mono HU2.out.size))
  refine hK.out _ _ ((hb3.block _ (lt_heap hS2c) (lt_heap hS2c) (by omega)).trans hS2c) (fun hS3c => ?_)
  clear hK K
  refine wpAnyH_ready (rs := [8]) (by kernel_rfl) (by simp) ?_
  refine AllReadyH.cons rfl (fun K hK => ?_) AllReadyH.nil
  go_simp
  go_wp2_with (go_at_call 62; refine (rfix_any _ g ((numS ((numS (s) 2).2) 2).2) _ HP3.out).mono ?_; rintro e y4 ⟨rfl, hp4, hb4⟩)
  have HP4 := Lib.hid hp4
  have hz4 := hb4.size
  have hr4_0 := (hb4.block _ (lt_heap hr3_0) (lt_heap hr3_0) (by omega)).trans hr3_0
  have hr4_1 := (hb4.block _ (lt_heap hr3_1) (lt_heap hr3_1) (by omega)).trans hr3_1
  have HU4 := Lib.hid (HU3.out.trans (hb4.mono HU3.out.size))
  refine hK.out _ _ ((hb4.block _ (lt_heap hS3c) (lt_heap hS3c) (by omega)).trans hS3c) (fun hS4c => ?_)
  clear hK K
  refine wpAnyH_take (i := 9) (v := ?_) rfl (by kernel_rfl) (by kernel_rfl) (by kernel_rfl) (fun _ _ _ h => h) (Or.inl ⟨by kernel_rfl, by (intro wz hSz; go_simp; try with_reducible rfl)⟩) hS4c ?_
  go_simp
  refine wpAnyH_ready (rs := [10]) (by kernel_rfl) (by simp) ?_
  refine AllReadyH.cons rfl (fun K hK => ?_) AllReadyH.nil
  refine step_store_row rfl 30 (.tmp 2) (.tmp 12) rfl #[.int .i64 0, .int .i64 0, .int .i64 0] #[.int .i64 (((numS (s) 2).1 : Int)), .int .i64 (((numS ((numS (s) 2).2) 2).1 : Int)), .int .i64 (fixS ((numS ((numS (s) 2).2) 2).2)).1] _ 30 hr4_1 rfl (by first | rfl | (go_simp; done) | (go_simp; rfl)) (by kernel_rfl) rfl (by simp [Value.oneCell']) ?_
  have hN := setRow_heap _ (w.heap.size + 1) _ #[.int .i64 (((numS (s) 2).1 : Int)), .int .i64 (((numS ((numS (s) 2).2) 2).1 : Int)), .int .i64 (fixS ((numS ((numS (s) 2).2) 2).2)).1] _ _ hr4_1
  have hsz := HU4.out.size
  have HUx := aft_setRow (k := w.heap.size + 1) HU4.out (by omega) (by omega) #[.int .i64 (((numS (s) 2).1 : Int)), .int .i64 (((numS ((numS (s) 2).2) 2).1 : Int)), .int .i64 (fixS ((numS ((numS (s) 2).2) 2).2)).1]
  have hPx := rp_setRow (k := w.heap.size + 1) HP4.out (by omega) #[.int .i64 (((numS (s) 2).1 : Int)), .int .i64 (((numS ((numS (s) 2).2) 2).1 : Int)), .int .i64 (fixS ((numS ((numS (s) 2).2) 2).2)).1]
  obtain ⟨y5, hy5⟩ : ∃ y, y4.setRow (w.heap.size + 1) #[.int .i64 (((numS (s) 2).1 : Int)), .int .i64 (((numS ((numS (s) 2).2) 2).1 : Int)), .int .i64 (fixS ((numS ((numS (s) 2).2) 2).2)).1] = y := ⟨_, rfl⟩
  have hO : ∀ k, k ≠ w.heap.size + 1 → y5.heap[k]? = y4.heap[k]? := fun k hk => by rw [← hy5]; exact setRow_other _ _ _ _ hk
  rw [hy5] at hN HUx hPx ⊢
  clear hy5
  have HU5 := Lib.hid HUx
  clear HUx
  have HP5 := Lib.hid hPx
  have hz5 := HU5.out.size
  have hr5_0 := (hO _ (by omega)).trans hr4_0
  have hr5_1 := hN
  clear hN
  refine hK.out _ _ ((hO _ (by omega)).trans hS4c) (fun hS5s => ?_)
  clear hK K
  refine wpAnyH_done (by kernel_rfl) ?_ _
  have c1_0 := cell_of_row _ _ 0 _ _ _ hr5_1
  have c1_1 := cell_of_row _ _ 1 _ _ _ hr5_1
  have c1_2 := cell_of_row _ _ 2 _ _ _ hr5_1
  simp at c1_0 c1_1 c1_2
  go_wp2
  exact bodyPost_ret (v := .agg #[.int .i64 (((numS (s) 2).1 : Int)), .int .i64 (((numS ((numS (s) 2).2) 2).1 : Int)), .int .i64 (fixS ((numS ((numS (s) 2).2) 2).2)).1]) (by simp [results, Tryz.results27, go_sem, c1_0, c1_1, c1_2]) rfl ⟨rfl, HP5.out, HU5.out⟩

set_option maxHeartbeats 4000000 in
set_option maxRecDepth 100000 in
theorem jpaint (g : Nat) {B : Nat} (s : St) (w : World) (hw : RP (.pointer (some ⟨g, 0, none⟩)) g B s w) (hg : g < w.heap.size) (hB : B ≤ w.heap.size) : Calls Tryz.prog 30 #[.agg #[.pointer (some ⟨g, 0, none⟩)]] w fun e' w' => e' = .returned (.agg #[.int .i64 (((numS (s) 1).1 : Int)), .int .i64 ((threeS ((numS (s) 1).2)).1 0), .int .i64 ((threeS ((numS (s) 1).2)).1 1), .int .i64 ((threeS ((numS (s) 1).2)).1 2), .int .i64 (fixS ((threeS ((numS (s) 1).2)).2)).1]) ∧ RP (.pointer (some ⟨g, 0, none⟩)) g B ((fixS ((threeS ((numS (s) 1).2)).2)).2) w' ∧ Aft g w.heap.size w w' := by
  have HPw := Lib.hid hw
  clear hw
  go_enter Tryz.func30, Tryz.ntmps30
  go_upto_region 1 with fail
  have hR := Au.rows2 w (.cells #[.pointer (some ⟨g, 0, none⟩)] 59) (.cells #[.int .i64 0, .int .i64 0, .int .i64 0, .int .i64 0, .int .i64 0] 91)
  have HUx := Ve.below_n2 w (.cells #[.pointer (some ⟨g, 0, none⟩)] 59) (.cells #[.int .i64 0, .int .i64 0, .int .i64 0, .int .i64 0, .int .i64 0] 91)
  obtain ⟨y0, hy0⟩ : ∃ y0, (w.alloc (.cells #[.pointer (some ⟨g, 0, none⟩)] 59)).alloc (.cells #[.int .i64 0, .int .i64 0, .int .i64 0, .int .i64 0, .int .i64 0] 91) = y0 := ⟨_, rfl⟩
  rw [hy0] at hR HUx ⊢
  clear hy0
  have HP0 := Lib.hid (HPw.out.new HUx)
  have hz0 := HUx.size
  have HU0 := Lib.hid (Aft.of (g := g) (base := w.heap.size) HUx)
  clear HUx
  obtain ⟨hr0_0, hr0_1⟩ := hR
  refine wp_region_held_drew (S := fun y => y.heap[w.heap.size]? = some (.cells #[.pointer (some ⟨g, 0, none⟩)] 59 (0, 0))) (by kernel_rfl) (hr0_0) (fun hS0 => ?_)
  obtain ⟨y1, hy1⟩ : ∃ y, y0.drew = y := ⟨_, rfl⟩
  have HU1 := Lib.hid (show Aft g w.heap.size w y1 by rw [← hy1]; exact HU0.out.drew)
  have HP1 := Lib.hid (show RP (.pointer (some ⟨g, 0, none⟩)) g B _ y1 by rw [← hy1]; exact rp_drew HP0.out)
  have hz1 := HU1.out.size
  have hr1_0 : y1.heap[w.heap.size]? = some (.cells #[.pointer (some ⟨g, 0, none⟩)] 59 (0, 0)) := by rw [← hy1]; exact hr0_0
  have hr1_1 : y1.heap[w.heap.size + 1]? = some (.cells #[.int .i64 0, .int .i64 0, .int .i64 0, .int .i64 0, .int .i64 0] 91 (0, 0)) := by rw [← hy1]; exact hr0_1
  rw [hy1] at hS0 ⊢
  clear hy1
  refine wpAnyH_take (i := 0) (v := ?_) rfl (by kernel_rfl) (by kernel_rfl) (by kernel_rfl) (fun _ _ _ h => h) (Or.inl ⟨by kernel_rfl, by (intro wz hSz; go_simp; try with_reducible rfl)⟩) hS0 ?_
  go_simp
  refine wpAnyH_take (i := 1) (v := ?_) rfl (by kernel_rfl) (by kernel_rfl) (by kernel_rfl) (fun _ _ _ h => h) (Or.inl ⟨by kernel_rfl, by (intro wz hSz; have c0_0 := cell_of_row _ _ 0 _ _ _ hSz; simp at c0_0; go_simp; try with_reducible rfl)⟩) hS0 ?_
  go_simp
  refine wpAnyH_take (i := 3) (v := ?_) rfl (by kernel_rfl) (by kernel_rfl) (by kernel_rfl) (fun _ _ _ h => h) (Or.inl ⟨by kernel_rfl, by (intro wz hSz; go_simp; try with_reducible rfl)⟩) hS0 ?_
  go_simp
  refine wpAnyH_take (i := 4) (v := ?_) rfl (by kernel_rfl) (by kernel_rfl) (by kernel_rfl) (fun _ _ _ h => h) (Or.inl ⟨by kernel_rfl, by (intro wz hSz; have c0_0 := cell_of_row _ _ 0 _ _ _ hSz; simp at c0_0; go_simp; try with_reducible rfl)⟩) hS0 ?_
  go_simp
  refine wpAnyH_take (i := 6) (v := ?_) rfl (by kernel_rfl) (by kernel_rfl) (by kernel_rfl) (fun _ _ _ h => h) (Or.inl ⟨by kernel_rfl, by (intro wz hSz; go_simp; try with_reducible rfl)⟩) hS0 ?_
  go_simp
  refine wpAnyH_take (i := 7) (v := ?_) rfl (by kernel_rfl) (by kernel_rfl) (by kernel_rfl) (fun _ _ _ h => h) (Or.inl ⟨by kernel_rfl, by (intro wz hSz; have c0_0 := cell_of_row _ _ 0 _ _ _ hSz; simp at c0_0; go_simp; try with_reducible rfl)⟩) hS0 ?_
  go_simp
  refine wpAnyH_ready (rs := [2]) (by kernel_rfl) (by simp) ?_
  refine AllReadyH.cons rfl (fun K hK => ?_) AllReadyH.nil
  go_simp
  go_wp2_with (go_at_call 60; refine (rbyte_any _ g (s) _ HP1.out).mono ?_; rintro e y2 ⟨rfl, hp2, hb2⟩)
  have HP2 := Lib.hid hp2
  have hz2 := hb2.size
  have hr2_0 := (hb2.block _ (lt_heap hr1_0) (lt_heap hr1_0) (by omega)).trans hr1_0
  have hr2_1 := (hb2.block _ (lt_heap hr1_1) (lt_heap hr1_1) (by omega)).trans hr1_1
  have HU2 := Lib.hid (HU1.out.trans (hb2.mono HU1.out.size))
  refine hK.out _ _ ((hb2.block _ (lt_heap hS0) (lt_heap hS0) (by omega)).trans hS0) (fun hS2c => ?_)
  clear hK K
  refine wpAnyH_ready (rs := [5]) (by kernel_rfl) (by simp) ?_
  refine AllReadyH.cons rfl (fun K hK => ?_) AllReadyH.nil
  go_simp
  go_wp2_with (go_at_call 64; refine (rhue_any _ g ((numS (s) 1).2) _ HP2.out (by omega) (by omega)).mono ?_; rintro e y3 ⟨rfl, hp3, hb3⟩)
  have HP3 := Lib.hid hp3
  have hz3 := hb3.size
  have hr3_0 := (hb3.block _ (lt_heap hr2_0) (lt_heap hr2_0) (by omega)).trans hr2_0
  have hr3_1 := (hb3.block _ (lt_heap hr2_1) (lt_heap hr2_1) (by omega)).trans hr2_1
  have HU3 := Lib.hid (HU2.out.trans (hb3.mono HU2.out.size))
  refine hK.out _ _ ((hb3.block _ (lt_heap hS2c) (lt_heap hS2c) (by omega)).trans hS2c) (fun hS3c => ?_)
  clear hK K
  refine wpAnyH_ready (rs := [8]) (by kernel_rfl) (by simp) ?_
  refine AllReadyH.cons rfl (fun K hK => ?_) AllReadyH.nil
  go_simp
  go_wp2_with (go_at_call 62; refine (rfix_any _ g ((threeS ((numS (s) 1).2)).2) _ HP3.out).mono ?_; rintro e y4 ⟨rfl, hp4, hb4⟩)
  have HP4 := Lib.hid hp4
  have hz4 := hb4.size
  have hr4_0 := (hb4.block _ (lt_heap hr3_0) (lt_heap hr3_0) (by omega)).trans hr3_0
  have hr4_1 := (hb4.block _ (lt_heap hr3_1) (lt_heap hr3_1) (by omega)).trans hr3_1
  have HU4 := Lib.hid (HU3.out.trans (hb4.mono HU3.out.size))
  refine hK.out _ _ ((hb4.block _ (lt_heap hS3c) (lt_heap hS3c) (by omega)).trans hS3c) (fun hS4c => ?_)
  clear hK K
  refine wpAnyH_take (i := 9) (v := ?_) rfl (by kernel_rfl) (by kernel_rfl) (by kernel_rfl) (fun _ _ _ h => h) (Or.inl ⟨by kernel_rfl, by (intro wz hSz; go_simp; try with_reducible rfl)⟩) hS4c ?_
  go_simp
  refine wpAnyH_ready (rs := [10]) (by kernel_rfl) (by simp) ?_
  refine AllReadyH.cons rfl (fun K hK => ?_) AllReadyH.nil
  refine step_store_row rfl 91 (.tmp 2) (.tmp 12) rfl #[.int .i64 0, .int .i64 0, .int .i64 0, .int .i64 0, .int .i64 0] #[.int .i64 (((numS (s) 1).1 : Int)), .int .i64 ((threeS ((numS (s) 1).2)).1 0), .int .i64 ((threeS ((numS (s) 1).2)).1 1), .int .i64 ((threeS ((numS (s) 1).2)).1 2), .int .i64 (fixS ((threeS ((numS (s) 1).2)).2)).1] _ 91 hr4_1 rfl (by first | rfl | (go_simp; done) | (go_simp; rfl)) (by kernel_rfl) rfl (by simp [Value.oneCell']) ?_
  have hN := setRow_heap _ (w.heap.size + 1) _ #[.int .i64 (((numS (s) 1).1 : Int)), .int .i64 ((threeS ((numS (s) 1).2)).1 0), .int .i64 ((threeS ((numS (s) 1).2)).1 1), .int .i64 ((threeS ((numS (s) 1).2)).1 2), .int .i64 (fixS ((threeS ((numS (s) 1).2)).2)).1] _ _ hr4_1
  have hsz := HU4.out.size
  have HUx := aft_setRow (k := w.heap.size + 1) HU4.out (by omega) (by omega) #[.int .i64 (((numS (s) 1).1 : Int)), .int .i64 ((threeS ((numS (s) 1).2)).1 0), .int .i64 ((threeS ((numS (s) 1).2)).1 1), .int .i64 ((threeS ((numS (s) 1).2)).1 2), .int .i64 (fixS ((threeS ((numS (s) 1).2)).2)).1]
  have hPx := rp_setRow (k := w.heap.size + 1) HP4.out (by omega) #[.int .i64 (((numS (s) 1).1 : Int)), .int .i64 ((threeS ((numS (s) 1).2)).1 0), .int .i64 ((threeS ((numS (s) 1).2)).1 1), .int .i64 ((threeS ((numS (s) 1).2)).1 2), .int .i64 (fixS ((threeS ((numS (s) 1).2)).2)).1]
  obtain ⟨y5, hy5⟩ : ∃ y, y4.setRow (w.heap.size + 1) #[.int .i64 (((numS (s) 1).1 : Int)), .int .i64 ((threeS ((numS (s) 1).2)).1 0), .int .i64 ((threeS ((numS (s) 1).2)).1 1), .int .i64 ((threeS ((numS (s) 1).2)).1 2), .int .i64 (fixS ((threeS ((numS (s) 1).2)).2)).1] = y := ⟨_, rfl⟩
  have hO : ∀ k, k ≠ w.heap.size + 1 → y5.heap[k]? = y4.heap[k]? := fun k hk => by rw [← hy5]; exact setRow_other _ _ _ _ hk
  rw [hy5] at hN HUx hPx ⊢
  clear hy5
  have HU5 := Lib.hid HUx
  clear HUx
  have HP5 := Lib.hid hPx
  have hz5 := HU5.out.size
  have hr5_0 := (hO _ (by omega)).trans hr4_0
  have hr5_1 := hN
  clear hN
  refine hK.out _ _ ((hO _ (by omega)).trans hS4c) (fun hS5s => ?_)
  clear hK K
  refine wpAnyH_done (by kernel_rfl) ?_ _
  have c1_0 := cell_of_row _ _ 0 _ _ _ hr5_1
  have c1_1 := cell_of_row _ _ 1 _ _ _ hr5_1
  have c1_2 := cell_of_row _ _ 2 _ _ _ hr5_1
  have c1_3 := cell_of_row _ _ 3 _ _ _ hr5_1
  have c1_4 := cell_of_row _ _ 4 _ _ _ hr5_1
  simp at c1_0 c1_1 c1_2 c1_3 c1_4
  go_wp2
  exact bodyPost_ret (v := .agg #[.int .i64 (((numS (s) 1).1 : Int)), .int .i64 ((threeS ((numS (s) 1).2)).1 0), .int .i64 ((threeS ((numS (s) 1).2)).1 1), .int .i64 ((threeS ((numS (s) 1).2)).1 2), .int .i64 (fixS ((threeS ((numS (s) 1).2)).2)).1]) (by simp [results, Tryz.results30, go_sem, c1_0, c1_1, c1_2, c1_3, c1_4]) rfl ⟨rfl, HP5.out, HU5.out⟩

set_option maxHeartbeats 4000000 in
set_option maxRecDepth 100000 in
theorem jkey (g : Nat) {B : Nat} (s : St) (w : World) (hw : RP (.pointer (some ⟨g, 0, none⟩)) g B s w) (hg : g < w.heap.size) (hB : B ≤ w.heap.size) : Calls Tryz.prog 66 #[.agg #[.pointer (some ⟨g, 0, none⟩)]] w fun e' w' => e' = .returned (.agg #[.int .i64 (fixS (s)).1, .int .i64 ((threeS ((fixS (s)).2)).1 0), .int .i64 ((threeS ((fixS (s)).2)).1 1), .int .i64 ((threeS ((fixS (s)).2)).1 2)]) ∧ RP (.pointer (some ⟨g, 0, none⟩)) g B ((threeS ((fixS (s)).2)).2) w' ∧ Aft g w.heap.size w w' := by
  have HPw := Lib.hid hw
  clear hw
  go_enter Tryz.func66, Tryz.ntmps66
  go_upto_region 1 with fail
  have hR := Au.rows2 w (.cells #[.pointer (some ⟨g, 0, none⟩)] 59) (.cells #[.int .i64 0, .int .i64 0, .int .i64 0, .int .i64 0] 137)
  have HUx := Ve.below_n2 w (.cells #[.pointer (some ⟨g, 0, none⟩)] 59) (.cells #[.int .i64 0, .int .i64 0, .int .i64 0, .int .i64 0] 137)
  obtain ⟨y0, hy0⟩ : ∃ y0, (w.alloc (.cells #[.pointer (some ⟨g, 0, none⟩)] 59)).alloc (.cells #[.int .i64 0, .int .i64 0, .int .i64 0, .int .i64 0] 137) = y0 := ⟨_, rfl⟩
  rw [hy0] at hR HUx ⊢
  clear hy0
  have HP0 := Lib.hid (HPw.out.new HUx)
  have hz0 := HUx.size
  have HU0 := Lib.hid (Aft.of (g := g) (base := w.heap.size) HUx)
  clear HUx
  obtain ⟨hr0_0, hr0_1⟩ := hR
  refine wp_region_held_drew (S := fun y => y.heap[w.heap.size]? = some (.cells #[.pointer (some ⟨g, 0, none⟩)] 59 (0, 0))) (by kernel_rfl) (hr0_0) (fun hS0 => ?_)
  obtain ⟨y1, hy1⟩ : ∃ y, y0.drew = y := ⟨_, rfl⟩
  have HU1 := Lib.hid (show Aft g w.heap.size w y1 by rw [← hy1]; exact HU0.out.drew)
  have HP1 := Lib.hid (show RP (.pointer (some ⟨g, 0, none⟩)) g B _ y1 by rw [← hy1]; exact rp_drew HP0.out)
  have hz1 := HU1.out.size
  have hr1_0 : y1.heap[w.heap.size]? = some (.cells #[.pointer (some ⟨g, 0, none⟩)] 59 (0, 0)) := by rw [← hy1]; exact hr0_0
  have hr1_1 : y1.heap[w.heap.size + 1]? = some (.cells #[.int .i64 0, .int .i64 0, .int .i64 0, .int .i64 0] 137 (0, 0)) := by rw [← hy1]; exact hr0_1
  rw [hy1] at hS0 ⊢
  clear hy1
  refine wpAnyH_take (i := 0) (v := ?_) rfl (by kernel_rfl) (by kernel_rfl) (by kernel_rfl) (fun _ _ _ h => h) (Or.inl ⟨by kernel_rfl, by (intro wz hSz; go_simp; try with_reducible rfl)⟩) hS0 ?_
  go_simp
  refine wpAnyH_take (i := 1) (v := ?_) rfl (by kernel_rfl) (by kernel_rfl) (by kernel_rfl) (fun _ _ _ h => h) (Or.inl ⟨by kernel_rfl, by (intro wz hSz; have c0_0 := cell_of_row _ _ 0 _ _ _ hSz; simp at c0_0; go_simp; try with_reducible rfl)⟩) hS0 ?_
  go_simp
  refine wpAnyH_take (i := 3) (v := ?_) rfl (by kernel_rfl) (by kernel_rfl) (by kernel_rfl) (fun _ _ _ h => h) (Or.inl ⟨by kernel_rfl, by (intro wz hSz; go_simp; try with_reducible rfl)⟩) hS0 ?_
  go_simp
  refine wpAnyH_take (i := 4) (v := ?_) rfl (by kernel_rfl) (by kernel_rfl) (by kernel_rfl) (fun _ _ _ h => h) (Or.inl ⟨by kernel_rfl, by (intro wz hSz; have c0_0 := cell_of_row _ _ 0 _ _ _ hSz; simp at c0_0; go_simp; try with_reducible rfl)⟩) hS0 ?_
  go_simp
  refine wpAnyH_ready (rs := [2]) (by kernel_rfl) (by simp) ?_
  refine AllReadyH.cons rfl (fun K hK => ?_) AllReadyH.nil
  go_simp
  go_wp2_with (go_at_call 62; refine (rfix_any _ g (s) _ HP1.out).mono ?_; rintro e y2 ⟨rfl, hp2, hb2⟩)
  have HP2 := Lib.hid hp2
  have hz2 := hb2.size
  have hr2_0 := (hb2.block _ (lt_heap hr1_0) (lt_heap hr1_0) (by omega)).trans hr1_0
  have hr2_1 := (hb2.block _ (lt_heap hr1_1) (lt_heap hr1_1) (by omega)).trans hr1_1
  have HU2 := Lib.hid (HU1.out.trans (hb2.mono HU1.out.size))
  refine hK.out _ _ ((hb2.block _ (lt_heap hS0) (lt_heap hS0) (by omega)).trans hS0) (fun hS2c => ?_)
  clear hK K
  refine wpAnyH_ready (rs := [5]) (by kernel_rfl) (by simp) ?_
  refine AllReadyH.cons rfl (fun K hK => ?_) AllReadyH.nil
  go_simp
  go_wp2_with (go_at_call 69; refine (rvec_any _ g ((fixS (s)).2) _ HP2.out (by omega) (by omega)).mono ?_; rintro e y3 ⟨rfl, hp3, hb3⟩)
  have HP3 := Lib.hid hp3
  have hz3 := hb3.size
  have hr3_0 := (hb3.block _ (lt_heap hr2_0) (lt_heap hr2_0) (by omega)).trans hr2_0
  have hr3_1 := (hb3.block _ (lt_heap hr2_1) (lt_heap hr2_1) (by omega)).trans hr2_1
  have HU3 := Lib.hid (HU2.out.trans (hb3.mono HU2.out.size))
  refine hK.out _ _ ((hb3.block _ (lt_heap hS2c) (lt_heap hS2c) (by omega)).trans hS2c) (fun hS3c => ?_)
  clear hK K
  refine wpAnyH_take (i := 6) (v := ?_) rfl (by kernel_rfl) (by kernel_rfl) (by kernel_rfl) (fun _ _ _ h => h) (Or.inl ⟨by kernel_rfl, by (intro wz hSz; go_simp; try with_reducible rfl)⟩) hS3c ?_
  go_simp
  refine wpAnyH_ready (rs := [7]) (by kernel_rfl) (by simp) ?_
  refine AllReadyH.cons rfl (fun K hK => ?_) AllReadyH.nil
  refine step_store_row rfl 137 (.tmp 2) (.tmp 9) rfl #[.int .i64 0, .int .i64 0, .int .i64 0, .int .i64 0] #[.int .i64 (fixS (s)).1, .int .i64 ((threeS ((fixS (s)).2)).1 0), .int .i64 ((threeS ((fixS (s)).2)).1 1), .int .i64 ((threeS ((fixS (s)).2)).1 2)] _ 137 hr3_1 rfl (by first | rfl | (go_simp; done) | (go_simp; rfl)) (by kernel_rfl) rfl (by simp [Value.oneCell']) ?_
  have hN := setRow_heap _ (w.heap.size + 1) _ #[.int .i64 (fixS (s)).1, .int .i64 ((threeS ((fixS (s)).2)).1 0), .int .i64 ((threeS ((fixS (s)).2)).1 1), .int .i64 ((threeS ((fixS (s)).2)).1 2)] _ _ hr3_1
  have hsz := HU3.out.size
  have HUx := aft_setRow (k := w.heap.size + 1) HU3.out (by omega) (by omega) #[.int .i64 (fixS (s)).1, .int .i64 ((threeS ((fixS (s)).2)).1 0), .int .i64 ((threeS ((fixS (s)).2)).1 1), .int .i64 ((threeS ((fixS (s)).2)).1 2)]
  have hPx := rp_setRow (k := w.heap.size + 1) HP3.out (by omega) #[.int .i64 (fixS (s)).1, .int .i64 ((threeS ((fixS (s)).2)).1 0), .int .i64 ((threeS ((fixS (s)).2)).1 1), .int .i64 ((threeS ((fixS (s)).2)).1 2)]
  obtain ⟨y4, hy4⟩ : ∃ y, y3.setRow (w.heap.size + 1) #[.int .i64 (fixS (s)).1, .int .i64 ((threeS ((fixS (s)).2)).1 0), .int .i64 ((threeS ((fixS (s)).2)).1 1), .int .i64 ((threeS ((fixS (s)).2)).1 2)] = y := ⟨_, rfl⟩
  have hO : ∀ k, k ≠ w.heap.size + 1 → y4.heap[k]? = y3.heap[k]? := fun k hk => by rw [← hy4]; exact setRow_other _ _ _ _ hk
  rw [hy4] at hN HUx hPx ⊢
  clear hy4
  have HU4 := Lib.hid HUx
  clear HUx
  have HP4 := Lib.hid hPx
  have hz4 := HU4.out.size
  have hr4_0 := (hO _ (by omega)).trans hr3_0
  have hr4_1 := hN
  clear hN
  refine hK.out _ _ ((hO _ (by omega)).trans hS3c) (fun hS4s => ?_)
  clear hK K
  refine wpAnyH_done (by kernel_rfl) ?_ _
  have c1_0 := cell_of_row _ _ 0 _ _ _ hr4_1
  have c1_1 := cell_of_row _ _ 1 _ _ _ hr4_1
  have c1_2 := cell_of_row _ _ 2 _ _ _ hr4_1
  have c1_3 := cell_of_row _ _ 3 _ _ _ hr4_1
  simp at c1_0 c1_1 c1_2 c1_3
  go_wp2
  exact bodyPost_ret (v := .agg #[.int .i64 (fixS (s)).1, .int .i64 ((threeS ((fixS (s)).2)).1 0), .int .i64 ((threeS ((fixS (s)).2)).1 1), .int .i64 ((threeS ((fixS (s)).2)).1 2)]) (by simp [results, Tryz.results66, go_sem, c1_0, c1_1, c1_2, c1_3]) rfl ⟨rfl, HP4.out, HU4.out⟩

set_option maxHeartbeats 4000000 in
set_option maxRecDepth 100000 in
theorem jjoint (g : Nat) {B : Nat} (s : St) (w : World) (hw : RP (.pointer (some ⟨g, 0, none⟩)) g B s w) (hg : g < w.heap.size) (hB : B ≤ w.heap.size) : Calls Tryz.prog 34 #[.agg #[.pointer (some ⟨g, 0, none⟩)]] w fun e' w' => e' = .returned (.agg #[.int .i64 (small16 (numS (s) 2).1), .int .i64 (small16 (numS ((numS (s) 2).2) 2).1), .int .i64 (small16 (numS ((numS ((numS (s) 2).2) 2).2) 2).1), .int .i64 (fixS ((numS ((numS ((numS (s) 2).2) 2).2) 2).2)).1]) ∧ RP (.pointer (some ⟨g, 0, none⟩)) g B ((fixS ((numS ((numS ((numS (s) 2).2) 2).2) 2).2)).2) w' ∧ Aft g w.heap.size w w' := by
  have HPw := Lib.hid hw
  clear hw
  go_enter Tryz.func34, Tryz.ntmps34
  go_upto_region 1 with fail
  have hR := Au.rows2 w (.cells #[.pointer (some ⟨g, 0, none⟩)] 59) (.cells #[.int .i64 0, .int .i64 0, .int .i64 0, .int .i64 0] 97)
  have HUx := Ve.below_n2 w (.cells #[.pointer (some ⟨g, 0, none⟩)] 59) (.cells #[.int .i64 0, .int .i64 0, .int .i64 0, .int .i64 0] 97)
  obtain ⟨y0, hy0⟩ : ∃ y0, (w.alloc (.cells #[.pointer (some ⟨g, 0, none⟩)] 59)).alloc (.cells #[.int .i64 0, .int .i64 0, .int .i64 0, .int .i64 0] 97) = y0 := ⟨_, rfl⟩
  rw [hy0] at hR HUx ⊢
  clear hy0
  have HP0 := Lib.hid (HPw.out.new HUx)
  have hz0 := HUx.size
  have HU0 := Lib.hid (Aft.of (g := g) (base := w.heap.size) HUx)
  clear HUx
  obtain ⟨hr0_0, hr0_1⟩ := hR
  refine wp_region_held_drew (S := fun y => y.heap[w.heap.size]? = some (.cells #[.pointer (some ⟨g, 0, none⟩)] 59 (0, 0))) (by kernel_rfl) (hr0_0) (fun hS0 => ?_)
  obtain ⟨y1, hy1⟩ : ∃ y, y0.drew = y := ⟨_, rfl⟩
  have HU1 := Lib.hid (show Aft g w.heap.size w y1 by rw [← hy1]; exact HU0.out.drew)
  have HP1 := Lib.hid (show RP (.pointer (some ⟨g, 0, none⟩)) g B _ y1 by rw [← hy1]; exact rp_drew HP0.out)
  have hz1 := HU1.out.size
  have hr1_0 : y1.heap[w.heap.size]? = some (.cells #[.pointer (some ⟨g, 0, none⟩)] 59 (0, 0)) := by rw [← hy1]; exact hr0_0
  have hr1_1 : y1.heap[w.heap.size + 1]? = some (.cells #[.int .i64 0, .int .i64 0, .int .i64 0, .int .i64 0] 97 (0, 0)) := by rw [← hy1]; exact hr0_1
  rw [hy1] at hS0 ⊢
  clear hy1
  refine wpAnyH_take (i := 0) (v := ?_) rfl (by kernel_rfl) (by kernel_rfl) (by kernel_rfl) (fun _ _ _ h => h) (Or.inl ⟨by kernel_rfl, by (intro wz hSz; go_simp; try with_reducible rfl)⟩) hS0 ?_
  go_simp
  refine wpAnyH_take (i := 1) (v := ?_) rfl (by kernel_rfl) (by kernel_rfl) (by kernel_rfl) (fun _ _ _ h => h) (Or.inl ⟨by kernel_rfl, by (intro wz hSz; have c0_0 := cell_of_row _ _ 0 _ _ _ hSz; simp at c0_0; go_simp; try with_reducible rfl)⟩) hS0 ?_
  go_simp
  refine wpAnyH_take (i := 3) (v := ?_) rfl (by kernel_rfl) (by kernel_rfl) (by kernel_rfl) (fun _ _ _ h => h) (Or.inl ⟨by kernel_rfl, by (intro wz hSz; go_simp; try with_reducible rfl)⟩) hS0 ?_
  go_simp
  refine wpAnyH_take (i := 4) (v := ?_) rfl (by kernel_rfl) (by kernel_rfl) (by kernel_rfl) (fun _ _ _ h => h) (Or.inl ⟨by kernel_rfl, by (intro wz hSz; have c0_0 := cell_of_row _ _ 0 _ _ _ hSz; simp at c0_0; go_simp; try with_reducible rfl)⟩) hS0 ?_
  go_simp
  refine wpAnyH_take (i := 6) (v := ?_) rfl (by kernel_rfl) (by kernel_rfl) (by kernel_rfl) (fun _ _ _ h => h) (Or.inl ⟨by kernel_rfl, by (intro wz hSz; go_simp; try with_reducible rfl)⟩) hS0 ?_
  go_simp
  refine wpAnyH_take (i := 7) (v := ?_) rfl (by kernel_rfl) (by kernel_rfl) (by kernel_rfl) (fun _ _ _ h => h) (Or.inl ⟨by kernel_rfl, by (intro wz hSz; have c0_0 := cell_of_row _ _ 0 _ _ _ hSz; simp at c0_0; go_simp; try with_reducible rfl)⟩) hS0 ?_
  go_simp
  refine wpAnyH_take (i := 9) (v := ?_) rfl (by kernel_rfl) (by kernel_rfl) (by kernel_rfl) (fun _ _ _ h => h) (Or.inl ⟨by kernel_rfl, by (intro wz hSz; go_simp; try with_reducible rfl)⟩) hS0 ?_
  go_simp
  refine wpAnyH_take (i := 10) (v := ?_) rfl (by kernel_rfl) (by kernel_rfl) (by kernel_rfl) (fun _ _ _ h => h) (Or.inl ⟨by kernel_rfl, by (intro wz hSz; have c0_0 := cell_of_row _ _ 0 _ _ _ hSz; simp at c0_0; go_simp; try with_reducible rfl)⟩) hS0 ?_
  go_simp
  refine wpAnyH_ready (rs := [2]) (by kernel_rfl) (by simp) ?_
  refine AllReadyH.cons rfl (fun K hK => ?_) AllReadyH.nil
  go_simp
  go_wp2_with (go_at_call 67; refine (rsmall_any _ g (s) _ HP1.out).mono ?_; rintro e y2 ⟨rfl, hp2, hb2⟩)
  have HP2 := Lib.hid hp2
  have hz2 := hb2.size
  have hr2_0 := (hb2.block _ (lt_heap hr1_0) (lt_heap hr1_0) (by omega)).trans hr1_0
  have hr2_1 := (hb2.block _ (lt_heap hr1_1) (lt_heap hr1_1) (by omega)).trans hr1_1
  have HU2 := Lib.hid (HU1.out.trans (hb2.mono HU1.out.size))
  refine hK.out _ _ ((hb2.block _ (lt_heap hS0) (lt_heap hS0) (by omega)).trans hS0) (fun hS2c => ?_)
  clear hK K
  refine wpAnyH_ready (rs := [5]) (by kernel_rfl) (by simp) ?_
  refine AllReadyH.cons rfl (fun K hK => ?_) AllReadyH.nil
  go_simp
  go_wp2_with (go_at_call 67; refine (rsmall_any _ g ((numS (s) 2).2) _ HP2.out).mono ?_; rintro e y3 ⟨rfl, hp3, hb3⟩)
  have HP3 := Lib.hid hp3
  have hz3 := hb3.size
  have hr3_0 := (hb3.block _ (lt_heap hr2_0) (lt_heap hr2_0) (by omega)).trans hr2_0
  have hr3_1 := (hb3.block _ (lt_heap hr2_1) (lt_heap hr2_1) (by omega)).trans hr2_1
  have HU3 := Lib.hid (HU2.out.trans (hb3.mono HU2.out.size))
  refine hK.out _ _ ((hb3.block _ (lt_heap hS2c) (lt_heap hS2c) (by omega)).trans hS2c) (fun hS3c => ?_)
  clear hK K
  refine wpAnyH_ready (rs := [8]) (by kernel_rfl) (by simp) ?_
  refine AllReadyH.cons rfl (fun K hK => ?_) AllReadyH.nil
  go_simp
  go_wp2_with (go_at_call 67; refine (rsmall_any _ g ((numS ((numS (s) 2).2) 2).2) _ HP3.out).mono ?_; rintro e y4 ⟨rfl, hp4, hb4⟩)
  have HP4 := Lib.hid hp4
  have hz4 := hb4.size
  have hr4_0 := (hb4.block _ (lt_heap hr3_0) (lt_heap hr3_0) (by omega)).trans hr3_0
  have hr4_1 := (hb4.block _ (lt_heap hr3_1) (lt_heap hr3_1) (by omega)).trans hr3_1
  have HU4 := Lib.hid (HU3.out.trans (hb4.mono HU3.out.size))
  refine hK.out _ _ ((hb4.block _ (lt_heap hS3c) (lt_heap hS3c) (by omega)).trans hS3c) (fun hS4c => ?_)
  clear hK K
  refine wpAnyH_ready (rs := [11]) (by kernel_rfl) (by simp) ?_
  refine AllReadyH.cons rfl (fun K hK => ?_) AllReadyH.nil
  go_simp
  go_wp2_with (go_at_call 62; refine (rfix_any _ g ((numS ((numS ((numS (s) 2).2) 2).2) 2).2) _ HP4.out).mono ?_; rintro e y5 ⟨rfl, hp5, hb5⟩)
  have HP5 := Lib.hid hp5
  have hz5 := hb5.size
  have hr5_0 := (hb5.block _ (lt_heap hr4_0) (lt_heap hr4_0) (by omega)).trans hr4_0
  have hr5_1 := (hb5.block _ (lt_heap hr4_1) (lt_heap hr4_1) (by omega)).trans hr4_1
  have HU5 := Lib.hid (HU4.out.trans (hb5.mono HU4.out.size))
  refine hK.out _ _ ((hb5.block _ (lt_heap hS4c) (lt_heap hS4c) (by omega)).trans hS4c) (fun hS5c => ?_)
  clear hK K
  refine wpAnyH_take (i := 12) (v := ?_) rfl (by kernel_rfl) (by kernel_rfl) (by kernel_rfl) (fun _ _ _ h => h) (Or.inl ⟨by kernel_rfl, by (intro wz hSz; go_simp; try with_reducible rfl)⟩) hS5c ?_
  go_simp
  refine wpAnyH_ready (rs := [13]) (by kernel_rfl) (by simp) ?_
  refine AllReadyH.cons rfl (fun K hK => ?_) AllReadyH.nil
  refine step_store_row rfl 97 (.tmp 2) (.tmp 15) rfl #[.int .i64 0, .int .i64 0, .int .i64 0, .int .i64 0] #[.int .i64 (small16 (numS (s) 2).1), .int .i64 (small16 (numS ((numS (s) 2).2) 2).1), .int .i64 (small16 (numS ((numS ((numS (s) 2).2) 2).2) 2).1), .int .i64 (fixS ((numS ((numS ((numS (s) 2).2) 2).2) 2).2)).1] _ 97 hr5_1 rfl (by first | rfl | (go_simp; done) | (go_simp; rfl)) (by kernel_rfl) rfl (by simp [Value.oneCell']) ?_
  have hN := setRow_heap _ (w.heap.size + 1) _ #[.int .i64 (small16 (numS (s) 2).1), .int .i64 (small16 (numS ((numS (s) 2).2) 2).1), .int .i64 (small16 (numS ((numS ((numS (s) 2).2) 2).2) 2).1), .int .i64 (fixS ((numS ((numS ((numS (s) 2).2) 2).2) 2).2)).1] _ _ hr5_1
  have hsz := HU5.out.size
  have HUx := aft_setRow (k := w.heap.size + 1) HU5.out (by omega) (by omega) #[.int .i64 (small16 (numS (s) 2).1), .int .i64 (small16 (numS ((numS (s) 2).2) 2).1), .int .i64 (small16 (numS ((numS ((numS (s) 2).2) 2).2) 2).1), .int .i64 (fixS ((numS ((numS ((numS (s) 2).2) 2).2) 2).2)).1]
  have hPx := rp_setRow (k := w.heap.size + 1) HP5.out (by omega) #[.int .i64 (small16 (numS (s) 2).1), .int .i64 (small16 (numS ((numS (s) 2).2) 2).1), .int .i64 (small16 (numS ((numS ((numS (s) 2).2) 2).2) 2).1), .int .i64 (fixS ((numS ((numS ((numS (s) 2).2) 2).2) 2).2)).1]
  obtain ⟨y6, hy6⟩ : ∃ y, y5.setRow (w.heap.size + 1) #[.int .i64 (small16 (numS (s) 2).1), .int .i64 (small16 (numS ((numS (s) 2).2) 2).1), .int .i64 (small16 (numS ((numS ((numS (s) 2).2) 2).2) 2).1), .int .i64 (fixS ((numS ((numS ((numS (s) 2).2) 2).2) 2).2)).1] = y := ⟨_, rfl⟩
  have hO : ∀ k, k ≠ w.heap.size + 1 → y6.heap[k]? = y5.heap[k]? := fun k hk => by rw [← hy6]; exact setRow_other _ _ _ _ hk
  rw [hy6] at hN HUx hPx ⊢
  clear hy6
  have HU6 := Lib.hid HUx
  clear HUx
  have HP6 := Lib.hid hPx
  have hz6 := HU6.out.size
  have hr6_0 := (hO _ (by omega)).trans hr5_0
  have hr6_1 := hN
  clear hN
  refine hK.out _ _ ((hO _ (by omega)).trans hS5c) (fun hS6s => ?_)
  clear hK K
  refine wpAnyH_done (by kernel_rfl) ?_ _
  have c1_0 := cell_of_row _ _ 0 _ _ _ hr6_1
  have c1_1 := cell_of_row _ _ 1 _ _ _ hr6_1
  have c1_2 := cell_of_row _ _ 2 _ _ _ hr6_1
  have c1_3 := cell_of_row _ _ 3 _ _ _ hr6_1
  simp at c1_0 c1_1 c1_2 c1_3
  go_wp2
  exact bodyPost_ret (v := .agg #[.int .i64 (small16 (numS (s) 2).1), .int .i64 (small16 (numS ((numS (s) 2).2) 2).1), .int .i64 (small16 (numS ((numS ((numS (s) 2).2) 2).2) 2).1), .int .i64 (fixS ((numS ((numS ((numS (s) 2).2) 2).2) 2).2)).1]) (by simp [results, Tryz.results34, go_sem, c1_0, c1_1, c1_2, c1_3]) rfl ⟨rfl, HP6.out, HU6.out⟩

set_option maxHeartbeats 4000000 in
set_option maxRecDepth 100000 in
theorem jbase (g : Nat) {B : Nat} (s : St) (w : World) (hw : RP (.pointer (some ⟨g, 0, none⟩)) g B s w) (hg : g < w.heap.size) (hB : B ≤ w.heap.size) : Calls Tryz.prog 68 #[.agg #[.pointer (some ⟨g, 0, none⟩)]] w fun e' w' => e' = .returned (.agg #[.int .i64 (small16 (numS (s) 2).1), .int .i64 (((numS ((numS (s) 2).2) 2).1 : Int))]) ∧ RP (.pointer (some ⟨g, 0, none⟩)) g B ((numS ((numS (s) 2).2) 2).2) w' ∧ Aft g w.heap.size w w' := by
  have HPw := Lib.hid hw
  clear hw
  go_enter Tryz.func68, Tryz.ntmps68
  go_upto_region 1 with fail
  have hR := Au.rows2 w (.cells #[.pointer (some ⟨g, 0, none⟩)] 59) (.cells #[.int .i64 0, .int .i64 0] 99)
  have HUx := Ve.below_n2 w (.cells #[.pointer (some ⟨g, 0, none⟩)] 59) (.cells #[.int .i64 0, .int .i64 0] 99)
  obtain ⟨y0, hy0⟩ : ∃ y0, (w.alloc (.cells #[.pointer (some ⟨g, 0, none⟩)] 59)).alloc (.cells #[.int .i64 0, .int .i64 0] 99) = y0 := ⟨_, rfl⟩
  rw [hy0] at hR HUx ⊢
  clear hy0
  have HP0 := Lib.hid (HPw.out.new HUx)
  have hz0 := HUx.size
  have HU0 := Lib.hid (Aft.of (g := g) (base := w.heap.size) HUx)
  clear HUx
  obtain ⟨hr0_0, hr0_1⟩ := hR
  refine wp_region_held_drew (S := fun y => y.heap[w.heap.size]? = some (.cells #[.pointer (some ⟨g, 0, none⟩)] 59 (0, 0))) (by kernel_rfl) (hr0_0) (fun hS0 => ?_)
  obtain ⟨y1, hy1⟩ : ∃ y, y0.drew = y := ⟨_, rfl⟩
  have HU1 := Lib.hid (show Aft g w.heap.size w y1 by rw [← hy1]; exact HU0.out.drew)
  have HP1 := Lib.hid (show RP (.pointer (some ⟨g, 0, none⟩)) g B _ y1 by rw [← hy1]; exact rp_drew HP0.out)
  have hz1 := HU1.out.size
  have hr1_0 : y1.heap[w.heap.size]? = some (.cells #[.pointer (some ⟨g, 0, none⟩)] 59 (0, 0)) := by rw [← hy1]; exact hr0_0
  have hr1_1 : y1.heap[w.heap.size + 1]? = some (.cells #[.int .i64 0, .int .i64 0] 99 (0, 0)) := by rw [← hy1]; exact hr0_1
  rw [hy1] at hS0 ⊢
  clear hy1
  refine wpAnyH_take (i := 0) (v := ?_) rfl (by kernel_rfl) (by kernel_rfl) (by kernel_rfl) (fun _ _ _ h => h) (Or.inl ⟨by kernel_rfl, by (intro wz hSz; go_simp; try with_reducible rfl)⟩) hS0 ?_
  go_simp
  refine wpAnyH_take (i := 1) (v := ?_) rfl (by kernel_rfl) (by kernel_rfl) (by kernel_rfl) (fun _ _ _ h => h) (Or.inl ⟨by kernel_rfl, by (intro wz hSz; have c0_0 := cell_of_row _ _ 0 _ _ _ hSz; simp at c0_0; go_simp; try with_reducible rfl)⟩) hS0 ?_
  go_simp
  refine wpAnyH_take (i := 3) (v := ?_) rfl (by kernel_rfl) (by kernel_rfl) (by kernel_rfl) (fun _ _ _ h => h) (Or.inl ⟨by kernel_rfl, by (intro wz hSz; go_simp; try with_reducible rfl)⟩) hS0 ?_
  go_simp
  refine wpAnyH_take (i := 4) (v := ?_) rfl (by kernel_rfl) (by kernel_rfl) (by kernel_rfl) (fun _ _ _ h => h) (Or.inl ⟨by kernel_rfl, by (intro wz hSz; have c0_0 := cell_of_row _ _ 0 _ _ _ hSz; simp at c0_0; go_simp; try with_reducible rfl)⟩) hS0 ?_
  go_simp
  refine wpAnyH_ready (rs := [2]) (by kernel_rfl) (by simp) ?_
  refine AllReadyH.cons rfl (fun K hK => ?_) AllReadyH.nil
  go_simp
  go_wp2_with (go_at_call 67; refine (rsmall_any _ g (s) _ HP1.out).mono ?_; rintro e y2 ⟨rfl, hp2, hb2⟩)
  have HP2 := Lib.hid hp2
  have hz2 := hb2.size
  have hr2_0 := (hb2.block _ (lt_heap hr1_0) (lt_heap hr1_0) (by omega)).trans hr1_0
  have hr2_1 := (hb2.block _ (lt_heap hr1_1) (lt_heap hr1_1) (by omega)).trans hr1_1
  have HU2 := Lib.hid (HU1.out.trans (hb2.mono HU1.out.size))
  refine hK.out _ _ ((hb2.block _ (lt_heap hS0) (lt_heap hS0) (by omega)).trans hS0) (fun hS2c => ?_)
  clear hK K
  refine wpAnyH_ready (rs := [5]) (by kernel_rfl) (by simp) ?_
  refine AllReadyH.cons rfl (fun K hK => ?_) AllReadyH.nil
  go_simp
  go_wp2_with (go_at_call 61; refine (rhalf_any _ g ((numS (s) 2).2) _ HP2.out).mono ?_; rintro e y3 ⟨rfl, hp3, hb3⟩)
  have HP3 := Lib.hid hp3
  have hz3 := hb3.size
  have hr3_0 := (hb3.block _ (lt_heap hr2_0) (lt_heap hr2_0) (by omega)).trans hr2_0
  have hr3_1 := (hb3.block _ (lt_heap hr2_1) (lt_heap hr2_1) (by omega)).trans hr2_1
  have HU3 := Lib.hid (HU2.out.trans (hb3.mono HU2.out.size))
  refine hK.out _ _ ((hb3.block _ (lt_heap hS2c) (lt_heap hS2c) (by omega)).trans hS2c) (fun hS3c => ?_)
  clear hK K
  refine wpAnyH_take (i := 6) (v := ?_) rfl (by kernel_rfl) (by kernel_rfl) (by kernel_rfl) (fun _ _ _ h => h) (Or.inl ⟨by kernel_rfl, by (intro wz hSz; go_simp; try with_reducible rfl)⟩) hS3c ?_
  go_simp
  refine wpAnyH_ready (rs := [7]) (by kernel_rfl) (by simp) ?_
  refine AllReadyH.cons rfl (fun K hK => ?_) AllReadyH.nil
  refine step_store_row rfl 99 (.tmp 2) (.tmp 9) rfl #[.int .i64 0, .int .i64 0] #[.int .i64 (small16 (numS (s) 2).1), .int .i64 (((numS ((numS (s) 2).2) 2).1 : Int))] _ 99 hr3_1 rfl (by first | rfl | (go_simp; done) | (go_simp; rfl)) (by kernel_rfl) rfl (by simp [Value.oneCell']) ?_
  have hN := setRow_heap _ (w.heap.size + 1) _ #[.int .i64 (small16 (numS (s) 2).1), .int .i64 (((numS ((numS (s) 2).2) 2).1 : Int))] _ _ hr3_1
  have hsz := HU3.out.size
  have HUx := aft_setRow (k := w.heap.size + 1) HU3.out (by omega) (by omega) #[.int .i64 (small16 (numS (s) 2).1), .int .i64 (((numS ((numS (s) 2).2) 2).1 : Int))]
  have hPx := rp_setRow (k := w.heap.size + 1) HP3.out (by omega) #[.int .i64 (small16 (numS (s) 2).1), .int .i64 (((numS ((numS (s) 2).2) 2).1 : Int))]
  obtain ⟨y4, hy4⟩ : ∃ y, y3.setRow (w.heap.size + 1) #[.int .i64 (small16 (numS (s) 2).1), .int .i64 (((numS ((numS (s) 2).2) 2).1 : Int))] = y := ⟨_, rfl⟩
  have hO : ∀ k, k ≠ w.heap.size + 1 → y4.heap[k]? = y3.heap[k]? := fun k hk => by rw [← hy4]; exact setRow_other _ _ _ _ hk
  rw [hy4] at hN HUx hPx ⊢
  clear hy4
  have HU4 := Lib.hid HUx
  clear HUx
  have HP4 := Lib.hid hPx
  have hz4 := HU4.out.size
  have hr4_0 := (hO _ (by omega)).trans hr3_0
  have hr4_1 := hN
  clear hN
  refine hK.out _ _ ((hO _ (by omega)).trans hS3c) (fun hS4s => ?_)
  clear hK K
  refine wpAnyH_done (by kernel_rfl) ?_ _
  have c1_0 := cell_of_row _ _ 0 _ _ _ hr4_1
  have c1_1 := cell_of_row _ _ 1 _ _ _ hr4_1
  simp at c1_0 c1_1
  go_wp2
  exact bodyPost_ret (v := .agg #[.int .i64 (small16 (numS (s) 2).1), .int .i64 (((numS ((numS (s) 2).2) 2).1 : Int))]) (by simp [results, Tryz.results68, go_sem, c1_0, c1_1]) rfl ⟨rfl, HP4.out, HU4.out⟩

end Go.Proofs.YtplcbdmiccpnnaaGreat.Jb
