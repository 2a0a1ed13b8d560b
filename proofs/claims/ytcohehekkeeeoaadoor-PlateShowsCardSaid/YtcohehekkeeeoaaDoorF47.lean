/- Films, sheets: from the document's to the program's: a sheet. -/
import Derived.Test.YtcohehekkeeeoaaDoorF46
namespace Go.Proofs.YtcohehekkeeeoaaDoor.Fm
open Go.RowKit Go.Proofs.YtcohehekkeeeoaaDoor Go.Proofs.YtcohehekkeeeoaaDoor.Rp Go.Proofs.YtcohehekkeeeoaaDoor.Re Go.Proofs.YtcohehekkeeeoaaDoor.Au Go.Proofs.YtcohehekkeeeoaaDoor.Jw
set_option linter.unusedVariables false
set_option linter.unusedSimpArgs false

set_option maxHeartbeats 4000000 in
set_option maxRecDepth 100000 in
theorem tosheet_any (W H : Int) (a : Option Addr) (n c : Nat) (Lf : Nat → Int) (w : World) (hr : Rw 3 w a n Lf) (hn : n * 24 ≤ 140737488351232) : Calls Tryd.prog 28 #[.agg #[.int .i64 W, .int .i64 H, .slice a n c]] w fun e' w' => (∃ a' c', e' = .returned (.agg #[.int .i64 W, .int .i64 H, .slice a' n c']) ∧ RwP (fun b => w.heap.size ≤ b) 3 w' a' n Lf) ∧ Below w.heap.size w w' := by
  have HR := Lib.hid hr
  clear hr
  go_enter Tryd.func28, Tryd.ntmps28
  go_upto_region 1 with fail
  have hR := Au.rows2 w (.cells #[.int .i64 W, .int .i64 H, .slice a n c] 24) (.cells #[.int .i64 0, .int .i64 0, .slice none 0 0] 36)
  have HUx := Ve.below_n2 w (.cells #[.int .i64 W, .int .i64 H, .slice a n c] 24) (.cells #[.int .i64 0, .int .i64 0, .slice none 0 0] 36)
  obtain ⟨y0, hy0⟩ : ∃ y0, (w.alloc (.cells #[.int .i64 W, .int .i64 H, .slice a n c] 24)).alloc (.cells #[.int .i64 0, .int .i64 0, .slice none 0 0] 36) = y0 := ⟨_, rfl⟩
  rw [hy0] at hR HUx ⊢
  clear hy0
  have HU0 := Lib.hid HUx
  clear HUx
  obtain ⟨hr0_0, hr0_1⟩ := hR
  have c0_0 := cell_of_row _ _ 0 _ _ _ hr0_0
  have c0_1 := cell_of_row _ _ 1 _ _ _ hr0_0
  have c0_2 := cell_of_row _ _ 2 _ _ _ hr0_0
  have c1_0 := cell_of_row _ _ 0 _ _ _ hr0_1
  have c1_1 := cell_of_row _ _ 1 _ _ _ hr0_1
  have c1_2 := cell_of_row _ _ 2 _ _ _ hr0_1
  simp at c0_0 c0_1 c0_2 c1_0 c1_1 c1_2
  have HA := Lib.hid (heap_alloc_last y0 (.cells #[.int .i64 0, .int .i64 0, .slice none 0 0] 36))
  have hHi := Lib.hid (show (Tryd.prog.info? 36).map (·.size) = some (#[.int .i64 W, .int .i64 H, .slice none 0 0] : Array Value).size by kernel_rfl)
  have hHz := Lib.hid (show (#[.int .i64 0, .int .i64 0, .slice none 0 0] : Array Value).size = (#[.int .i64 W, .int .i64 H, .slice none 0 0] : Array Value).size from rfl)
  have hHo := Lib.hid (show (#[.int .i64 W, .int .i64 H, .slice none 0 0] : Array Value).all (·.oneCell') = true by simp [Value.oneCell'])
  go_upto_region 2 with (refine Au.wpList_store_row rfl 36 (.tmp 3) (.tmp 11) rfl (y0.alloc (.cells #[.int .i64 0, .int .i64 0, .slice none 0 0] 36)) #[.int .i64 0, .int .i64 0, .slice none 0 0] #[.int .i64 W, .int .i64 H, .slice none 0 0] (y0.heap.size) 36 HA.out rfl rfl hHi.out hHz.out hHo.out ?_)
  clear c0_0 c0_1 c0_2 c1_0 c1_1 c1_2
  clear hHi hHz hHo
  have hN := setRow_heap _ (y0.heap.size) _ #[.int .i64 W, .int .i64 H, .slice none 0 0] _ _ HA.out
  clear HA
  have hsz := HU0.out.size
  have hb := Ve.below_n1 y0 (.cells #[.int .i64 0, .int .i64 0, .slice none 0 0] 36)
  have HUx := below_setRow (g := y0.heap.size) (HU0.out.trans (hb.mono HU0.out.size)) (by omega) #[.int .i64 W, .int .i64 H, .slice none 0 0]
  have hO : ∀ kk, kk < y0.heap.size → ((y0.alloc (.cells #[.int .i64 0, .int .i64 0, .slice none 0 0] 36)).setRow (y0.heap.size) #[.int .i64 W, .int .i64 H, .slice none 0 0]).heap[kk]? = y0.heap[kk]? := fun kk hk => (setRow_other _ _ _ _ (by omega)).trans (hb.block _ hk)
  obtain ⟨y1, hy1⟩ : ∃ y, (y0.alloc (.cells #[.int .i64 0, .int .i64 0, .slice none 0 0] 36)).setRow (y0.heap.size) #[.int .i64 W, .int .i64 H, .slice none 0 0] = y := ⟨_, rfl⟩
  have hs1 : y1.heap.size = y0.heap.size + 1 := by rw [← hy1]; simp [World.setRow]
  rw [hy1] at hN HUx hO ⊢
  clear hy1 hsz hb
  have HU1 := Lib.hid HUx
  clear HUx
  have hl1_0 := lt_heap hr0_0
  have hr1_0 := (hO _ hl1_0).trans hr0_0
  have hl1_1 := lt_heap hr0_1
  have hr1_1 := (hO _ hl1_1).trans hr0_1
  have hr1_2 := hN
  clear hN hO
  clear hr0_0 hr0_1 HU0
  obtain ⟨q, hq⟩ : ∃ q, q = y0.heap.size := ⟨_, rfl⟩
  rw [← hq] at hr1_2 ⊢
  have hqw : w.heap.size + 1 < q := by have := HU1.out.size; omega
  have hql := lt_heap hr1_2
  clear hq
  have c0_0 := cell_of_row _ _ 0 _ _ _ hr1_0
  have c0_1 := cell_of_row _ _ 1 _ _ _ hr1_0
  have c0_2 := cell_of_row _ _ 2 _ _ _ hr1_0
  simp at c0_0 c0_1 c0_2
  go_upto_region 3 with fail
  obtain ⟨bl, hb_l⟩ : ∃ b, b = y1.heap.size := ⟨_, rfl⟩
  have hbql : q < bl := by rw [hb_l]; exact lt_heap hr1_2
  have hbwl : w.heap.size ≤ bl := by rw [hb_l]; exact HU1.out.size
  have hbel : bl ≤ y1.heap.size := by omega
  have hbfl : y1.heap.size ≤ bl := by omega
  clear hb_l
  go_loopw [15] (fun i wr => ∃ (k : Nat) (v : Value), k ≤ n ∧ i = .int .i64 k ∧ wr.heap[q]? = some (.cells #[.int .i64 W, .int .i64 H, v] 36 (0, 0)) ∧ Hid (wr.ownsRow bl 79 3 v k (flatc 3 Lf k)) ∧ Hid (Aw (fun z => z < bl ∧ z ≠ q) y1 wr)) (fun i _ => n - (intOf i).toNat)
  case atStart => exact ⟨0, _, by omega, rfl, hr1_2, Lib.hid (by simpa [flatc] using World.ownsRow_nil _ _ _ _), Lib.hid (Aw.refl _ _)⟩
  case round =>
    obtain ⟨k, v, hk, rfl, hrq, HO, HA⟩ := hrel
    have hsz := HA.out.size
    by_cases hlt : k < n
    · have hlt' : (k : Int) < n := by omega
      have HBw := HU1.out.trans (aw_low HA.out (b := w.heap.size) (by omega) (by omega) (by omega))
      obtain ⟨sb, so, hsa, e0, e1, e2⟩ := (HR.out.on HBw).at3 hlt
      subst hsa
      obtain ⟨x0, hx0⟩ : ∃ x, x = Lf (k * 3) := ⟨_, rfl⟩
      rw [← hx0] at e0
      obtain ⟨x1, hx1⟩ : ∃ x, x = Lf (k * 3 + 1) := ⟨_, rfl⟩
      rw [← hx1] at e1
      obtain ⟨x2, hx2⟩ : ∃ x, x = Lf (k * 3 + 2) := ⟨_, rfl⟩
      rw [← hx2] at e2
      have HX := Lib.hid (show flatc 3 Lf (k + 1) = flatc 3 Lf k ++ [.int .i64 x0, .int .i64 x1, .int .i64 x2] by rw [flatc_step3, ← hx0, ← hx1, ← hx2])
      clear hx0 hx1 hx2 HBw
      obtain ⟨i0, hi, hz0, hz1, hz2⟩ := info_parts info_hue
      go_wp2_with fail
      clear e0 e1 e2
      have hb0 := Ve.below_n1 wr (.cells #[.int .i64 x0, .int .i64 x1, .int .i64 x2] 77)
      have hN0 := heap_alloc_last wr (.cells #[.int .i64 x0, .int .i64 x1, .int .i64 x2] 77)
      have hq0 : (wr.alloc (.cells #[.int .i64 x0, .int .i64 x1, .int .i64 x2] 77)).heap[q]? = some (.cells #[.int .i64 W, .int .i64 H, v] 36 (0, 0)) := (hb0.block _ (lt_heap hrq)).trans hrq
      refine Ol.way_drew (S := fun y => y.heap[q]? = some (.cells #[.int .i64 W, .int .i64 H, v] 36 (0, 0)) ∧ y.heap[wr.heap.size]? = some (.cells #[.int .i64 x0, .int .i64 x1, .int .i64 x2] 77 (0, 0))) (stop := 7) (by kernel_rfl) (⟨hq0, hN0⟩) (fun hS0 => ?_)
      obtain ⟨z0, hz0_⟩ : ∃ y, (wr.alloc (.cells #[.int .i64 x0, .int .i64 x1, .int .i64 x2] 77)).drew = y := ⟨_, rfl⟩
      have HA0 := Lib.hid (show Aw (fun z => z < bl ∧ z ≠ q) y1 z0 by rw [← hz0_]; exact HA.out.trans (Aw.of hb0.drew))
      have HO0 := Lib.hid (show z0.ownsRow bl 79 3 v k (flatc 3 Lf k) by rw [← hz0_]; exact Ls.own_below HO.out hb0.drew)
      have hs0 : wr.heap.size ≤ z0.heap.size := by rw [← hz0_]; exact hb0.size
      rw [hz0_] at hS0 ⊢
      clear hz0_ hq0 hN0 hb0
      refine Ol.way_plain (i := 0) (v := ?_) rfl (by kernel_rfl) (by kernel_rfl) (by kernel_rfl) (fun _ _ _ h => h) (by decide) (Or.inl ⟨by kernel_rfl, by (intro wz _; go_simp; try with_reducible rfl)⟩) (Ol.on hS0) ?_
      go_simp
      refine Ol.way_take (i := 1) (v := ?_) rfl (by kernel_rfl) (by kernel_rfl) (by kernel_rfl) (fun _ _ _ h => h) (by decide) (by kernel_rfl) (by kernel_rfl) (Or.inl ⟨by kernel_rfl, by (intro wz hSz; have cq_ := cell_of_row _ _ 2 _ _ _ hSz.1; simp at cq_; go_simp; try with_reducible rfl)⟩) hS0 ?_
      go_simp
      refine Ol.way_take (i := 2) (v := ?_) rfl (by kernel_rfl) (by kernel_rfl) (by kernel_rfl) (fun _ _ _ h => h) (by decide) (by kernel_rfl) (by kernel_rfl) (Or.inl ⟨by kernel_rfl, by (intro wz hSz; have d0 := cell_of_row _ _ 0 _ _ _ hSz.2; have d1 := cell_of_row _ _ 1 _ _ _ hSz.2; have d2 := cell_of_row _ _ 2 _ _ _ hSz.2; simp at d0 d1 d2; go_simp; try with_reducible rfl)⟩) hS0 ?_
      go_simp
      refine Ol.way_ready (rs := [3]) (by kernel_rfl) (by simp) ?_
      refine Ol.Each.cons rfl (fun K hK => ?_) Ol.Each.nil
      go_simp
      go_wp2_with (go_at_call 30; refine (hto_any x0 x1 x2 _).mono ?_; rintro e z1 ⟨rfl, hb1⟩)
      have HA1 := Lib.hid (HA0.out.trans (Aw.of hb1))
      have HO1 := Lib.hid (Ls.own_below HO0.out hb1)
      have hs1 := hb1.size
      refine Ol.keep hK _ _ (⟨(hb1.block _ (lt_heap hS0.1)).trans hS0.1, (hb1.block _ (lt_heap hS0.2)).trans hS0.2⟩) (fun hS1 => ?_)
      clear hK K
      refine Ol.way_ready (rs := [4]) (by kernel_rfl) (by simp) ?_
      refine Ol.Each.cons rfl (fun K hK => ?_) Ol.Each.nil
      go_simp
      have hb2 := Ve.below_n1 z1 (.cells #[.int .i64 x0, .int .i64 x1, .int .i64 x2] 79)
      have hN2 := heap_alloc_last z1 (.cells #[.int .i64 x0, .int .i64 x1, .int .i64 x2] 79)
      obtain ⟨z2, hz2_⟩ : ∃ y, z1.alloc (.cells #[.int .i64 x0, .int .i64 x1, .int .i64 x2] 79) = y := ⟨_, rfl⟩
      rw [hz2_] at hb2 hN2 ⊢
      clear hz2_
      have HA2 := Lib.hid (HA1.out.trans (Aw.of hb2))
      have HO2 := Lib.hid (Ls.own_below HO1.out hb2)
      have hs2 := hb2.size
      refine Ol.keep hK _ _ (⟨(hb2.block _ (lt_heap hS1.1)).trans hS1.1, (hb2.block _ (lt_heap hS1.2)).trans hS1.2⟩) (fun hS2 => ?_)
      clear hK K
      refine Ol.way_ready (rs := [5]) (by kernel_rfl) (by simp) ?_
      refine Ol.Each.cons rfl (fun K hK => ?_) Ol.Each.nil
      refine step_append_lies _ rfl _ _ 34 rfl bl 79 i0 (.agg #[.int .i64 0, .int .i64 0, .int .i64 0]) 3 24 Tryd.underlying34 hi hz0 hz1 hz2 rfl (by decide) _ _ _ rfl HO2.out ⟨z1.heap.size, 0, none⟩ 1 1 [.int .i64 x0, .int .i64 x1, .int .i64 x2] rfl rfl ?c1 ?c2 (by omega) ?c3 ?c4 ?c5 _ rfl ?_
      case c1 => exact World.news_of_block hN2
      case c2 => intro u hu; simp at hu; rcases hu with rfl | rfl | rfl <;> rfl
      case c3 => unfold maxLen; omega
      case c4 => omega
      case c5 => omega
      intro g9 cg z3 hown hgrow hgk hlt2
      have hqo := fun r hr => (HO2.out.lt r hr).1
      have HA3 := Lib.hid (HA2.out.step hgrow (fun r hr => by have := hqo r hr; omega))
      rw [← HX.out] at hown
      have hqn : q ≠ g9 := by rcases hgk with h | h <;> first | omega | (have := hqo _ h; omega)
      have hq3 := (hgrow.block q (lt_heap hS2.1) (fun e => by have := hqo _ e.symm; omega)).trans hS2.1
      have hs3 := hgrow.size
      refine Ol.keep hK _ _ (⟨hq3, (hgrow.block _ (lt_heap hS2.2) (fun e => by have := (HO.out.lt _ e.symm).2; omega)).trans hS2.2⟩) (fun hS3 => ?_)
      clear hK K
      refine Ol.way_plain (i := 6) (v := ?_) rfl (by kernel_rfl) (by kernel_rfl) (by kernel_rfl) (fun _ _ _ h => h) (by decide) (Or.inl ⟨by kernel_rfl, by (intro wz _; go_simp; try with_reducible rfl)⟩) (Ol.on hS3) ?_
      go_simp
      refine Ol.way_ready (rs := [7]) (by kernel_rfl) (by simp) ?_
      refine Ol.Each.cons rfl (fun K hK => ?_) Ol.Each.nil
      have p0 := cell_of_row _ _ 2 _ _ _ hq3
      simp at p0
      have fz : ∀ j, z3.frozen? ⟨q, j, none⟩ = false := fun j => by simp [World.frozen?, hq3]
      go_simp
      clear fz p0
      have hN : (z3.setCell ⟨q, 2, none⟩ (.slice (some ⟨g9, 0, none⟩) (k + 1) cg)).heap[q]? = some (.cells #[.int .i64 W, .int .i64 H, .slice (some ⟨g9, 0, none⟩) (k + 1) cg] 36 (0, 0)) := heap_setCell_same _ _ 2 _ _ _ hq3
      have HA4 := Lib.hid (HA3.out.set (b := q) (fun h => h.2 rfl) 2 (.slice (some ⟨g9, 0, none⟩) (k + 1) cg))
      have HO4 := Lib.hid (own_via (w' := (z3.setCell ⟨q, 2, none⟩ (.slice (some ⟨g9, 0, none⟩) (k + 1) cg))) hown (fun r hr => Below.heap_setCell _ _ _ _ (by simp [Value.ownBlock] at hr; show r ≠ q; omega)))
      refine Ol.past hK (by kernel_rfl) _ _ ?_
      clear hK K
      refine Ol.way_done (by kernel_rfl) ?_ _
      go_wp2
      go_roundw
      case rel => exact ⟨k + 1, _, by omega, by go_num, hN, HO4, HA4⟩
      case measure => simp [intOf]; omega
    · have hge : ¬ (k : Int) < n := by omega
      have hkn : n = k := by omega
      subst hkn
      obtain ⟨a_l, c_l, hv⟩ := own_slice HO.out
      subst hv
      obtain ⟨y2, hwr⟩ : ∃ y : World, y = wr := ⟨_, rfl⟩
      rw [← hwr] at hrq HO HA hsz ⊢
      clear hwr
      have hr2_0 := (HA.out.block _ ⟨by have := lt_heap hr1_0; omega, by omega⟩ (lt_heap hr1_0)).trans hr1_0
      have hr2_1 := (HA.out.block _ ⟨by have := lt_heap hr1_1; omega, by omega⟩ (lt_heap hr1_1)).trans hr1_1
      have hr2_2 := hrq
      have HU2 := Lib.hid (HU1.out.trans (aw_low HA.out (b := w.heap.size) (by omega) (by omega) (by omega)))
      have HF_l2 := Lib.hid (rwx_own (q := q) (lo := w.heap.size + 1) HO.out (by omega) (by omega))
      clear HO HA hrq hge hlt hk
      clear hr1_0 hr1_1 hr1_2 HU1
      have HF := Lib.hid (((RwX.row HF_l2.out (r := w.heap.size + 1) (by omega) #[.int .i64 W, .int .i64 H, .slice a_l n c_l]).weak (P' := fun b => w.heap.size ≤ b) (fun b hb => by have := hb.2; omega)))
      have c2_0 := cell_of_row _ _ 0 _ _ _ hr2_2
      have c2_1 := cell_of_row _ _ 1 _ _ _ hr2_2
      have c2_2 := cell_of_row _ _ 2 _ _ _ hr2_2
      simp at c2_0 c2_1 c2_2
      have hHr := Lib.hid hr2_1
      have hHi := Lib.hid (show (Tryd.prog.info? 36).map (·.size) = some (#[.int .i64 W, .int .i64 H, .slice a_l n c_l] : Array Value).size by kernel_rfl)
      have hHz := Lib.hid (show (#[.int .i64 0, .int .i64 0, .slice none 0 0] : Array Value).size = (#[.int .i64 W, .int .i64 H, .slice a_l n c_l] : Array Value).size from rfl)
      have hHo := Lib.hid (show (#[.int .i64 W, .int .i64 H, .slice a_l n c_l] : Array Value).all (·.oneCell') = true by simp [Value.oneCell'])
      go_wp2_with (first | (refine Au.wpList_store_row rfl 36 (.tmp 2) (.tmp 27) rfl y2 #[.int .i64 0, .int .i64 0, .slice none 0 0] #[.int .i64 W, .int .i64 H, .slice a_l n c_l] (w.heap.size + 1) 36 hHr.out rfl rfl hHi.out hHz.out hHo.out ?_))
      clear c2_0 c2_1 c2_2
      clear hHr hHi hHz hHo
      have hN := setRow_heap _ (w.heap.size + 1) _ #[.int .i64 W, .int .i64 H, .slice a_l n c_l] _ _ hr2_1
      have hsz := HU2.out.size
      have HUx := below_setRow (g := w.heap.size + 1) HU2.out (by first | omega | (simp at *; omega)) #[.int .i64 W, .int .i64 H, .slice a_l n c_l]
      have hO : ∀ kk, kk ≠ w.heap.size + 1 → (y2.setRow (w.heap.size + 1) #[.int .i64 W, .int .i64 H, .slice a_l n c_l]).heap[kk]? = y2.heap[kk]? := fun kk hk => setRow_other _ _ _ _ hk
      obtain ⟨y3, hy3⟩ : ∃ y, y2.setRow (w.heap.size + 1) #[.int .i64 W, .int .i64 H, .slice a_l n c_l] = y := ⟨_, rfl⟩
      rw [hy3] at hN HUx hO HF ⊢
      clear hy3 hsz
      have HU3 := Lib.hid HUx
      clear HUx
      have hr3_0 := (hO _ (by omega)).trans hr2_0
      have hr3_1 := hN
      have hr3_2 := (hO _ (by omega)).trans hr2_2
      clear hN hO
      clear hr2_0 hr2_1 hr2_2 HU2
      have c1_0 := cell_of_row _ _ 0 _ _ _ hr3_1
      have c1_1 := cell_of_row _ _ 1 _ _ _ hr3_1
      have c1_2 := cell_of_row _ _ 2 _ _ _ hr3_1
      simp at c1_0 c1_1 c1_2
      go_wp2
      exact bodyPost_ret (v := .agg #[.int .i64 W, .int .i64 H, .slice a_l n c_l]) (by simp [results, Tryd.results28, go_sem, c1_0, c1_1, c1_2]) rfl ⟨⟨a_l, c_l, rfl, HF.out⟩, HU3.out⟩

end Go.Proofs.YtcohehekkeeeoaaDoor.Fm
