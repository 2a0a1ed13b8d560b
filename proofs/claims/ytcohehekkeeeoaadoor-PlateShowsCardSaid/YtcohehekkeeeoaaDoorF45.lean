/- Layer 21 (plate): depths as a picture, by the program. -/
import Derived.Test.YtcohehekkeeeoaaDoorF41
import Derived.Test.YtcohehekkeeeoaaDoorF38
import Derived.Test.YtcohehekkeeeoaaDoorF19
import Derived.Deep.OwnRows
import Derived.Laws.EntriesVeiled
namespace Go.Proofs.YtcohehekkeeeoaaDoor.Pq
open Go Go.RowKit Go.Proofs.YtcohehekkeeeoaaDoor Go.Proofs.YtcohehekkeeeoaaDoor.Re Go.Proofs.YtcohehekkeeeoaaDoor.Au Go.Proofs.YtcohehekkeeeoaaDoor.Pg Go.Proofs.YtcohehekkeeeoaaDoor.Hv Go.Proofs.YtcohehekkeeeoaaDoor.Wa
set_option linter.unusedVariables false
set_option linter.unusedSimpArgs false

set_option maxHeartbeats 2000000 in
set_option maxRecDepth 100000 in
theorem depths_no (W H : Int) (al ad an ab ax af : Option Addr) (cl cd cn cb cx cf nl nd nn nb ns nf : Nat) (L D N Bb S F : Nat → Int) (w : World) (hA : Fm.FAt w (⟨W, H, nl, nd, nn, nb, ns, nf, L, D, N, Bb, S, F⟩ : Fm.Flm) (⟨al, cl, ad, cd, an, cn, ab, cb, ax, cx, af, cf⟩ : Fm.Pl)) (h : ¬ Fm.okF (⟨W, H, nl, nd, nn, nb, ns, nf, L, D, N, Bb, S, F⟩ : Fm.Flm)) : Calls Tryd.prog 10 #[.agg #[.int .i64 W, .int .i64 H, .slice al nl cl, .slice ad nd cd, .slice an nn cn, .slice ab nb cb, .slice ax ns cx, .slice af nf cf]] w fun e' w' => e' = .returned (.tuple #[.agg #[.int .i64 0, .int .i64 0, .slice none 0 0], .int .i64 1]) ∧ Below w.heap.size w w' := by
  have k := fun w hA => Fm.fright_any (⟨W, H, nl, nd, nn, nb, ns, nf, L, D, N, Bb, S, F⟩ : Fm.Flm) (⟨al, cl, ad, cd, an, cn, ab, cb, ax, cx, af, cf⟩ : Fm.Pl) w hA
  rw [decide_eq_false h] at k
  clear h
  have HAT := Lib.hid hA
  clear hA
  obtain ⟨B, hB⟩ : ∃ B, B = w.heap.size := ⟨_, rfl⟩
  go_enter Tryd.func10, Tryd.ntmps10
  go_upto_region 1 with fail
  have hr := rows2 w (.cells #[.int .i64 W, .int .i64 H, .slice al nl cl, .slice ad nd cd, .slice an nn cn, .slice ab nb cb, .slice ax ns cx, .slice af nf cf] 40) (.cells #[.int .i64 0, .int .i64 0, .slice none 0 0] 44)
  have hb := Ve.below_n2 w (.cells #[.int .i64 W, .int .i64 H, .slice al nl cl, .slice ad nd cd, .slice an nn cn, .slice ab nb cb, .slice ax ns cx, .slice af nf cf] 40) (.cells #[.int .i64 0, .int .i64 0, .slice none 0 0] 44)
  obtain ⟨y0, hy0⟩ : ∃ y0, (w.alloc (.cells #[.int .i64 W, .int .i64 H, .slice al nl cl, .slice ad nd cd, .slice an nn cn, .slice ab nb cb, .slice ax ns cx, .slice af nf cf] 40)).alloc (.cells #[.int .i64 0, .int .i64 0, .slice none 0 0] 44) = y0 := ⟨_, rfl⟩
  rw [hy0] at hr hb ⊢
  rw [← hB] at hr ⊢
  have HBW := Lib.hid hB
  have HI := Lib.hid (show (Tryd.prog.info? 44).map (·.size) = some 3 by kernel_rfl)
  have HX := Lib.hid hr.1
  have HR := Lib.hid hr.2
  have HB0 := Lib.hid hb
  clear hy0 hb hB hr
  have c0 := cell_of_row _ _ 0 _ _ _ HX.out
  have c1 := cell_of_row _ _ 1 _ _ _ HX.out
  have c2 := cell_of_row _ _ 2 _ _ _ HX.out
  have c3 := cell_of_row _ _ 3 _ _ _ HX.out
  have c4 := cell_of_row _ _ 4 _ _ _ HX.out
  have c5 := cell_of_row _ _ 5 _ _ _ HX.out
  have c6 := cell_of_row _ _ 6 _ _ _ HX.out
  have c7 := cell_of_row _ _ 7 _ _ _ HX.out
  simp at c0 c1 c2 c3 c4 c5 c6 c7
  go_upto_region 2 with (go_at_call 36; refine (k _ (HAT.out.on HB0.out)).mono ?_; rintro e y1 ⟨rfl, hb1⟩)
  have HX1 := Lib.hid ((hb1.block _ (lt_heap HX.out)).trans HX.out)
  have HR1 := Lib.hid ((hb1.block _ (lt_heap HR.out)).trans HR.out)
  have HB1 := Lib.hid (HB0.out.trans (hb1.mono HB0.out.size))
  clear hb1 c0 c1 c2 c3 c4 c5 c6 c7
  have s0 := cell_of_row _ _ 0 _ _ _ HR1.out
  have s1 := cell_of_row _ _ 1 _ _ _ HR1.out
  have s2 := cell_of_row _ _ 2 _ _ _ HR1.out
  simp at s0 s1 s2
  have hf : ∀ j, y1.frozen? ⟨B + 1, j, none⟩ = false := fun j => by simp [World.frozen?, HR1.out]
  have hf0 := hf 0
  have hf1 := hf 1
  have hf2 := hf 2
  clear hf
  go_wp2
  have hN := setRow_heap y1 (B + 1) _ #[.int .i64 0, .int .i64 0, .slice none 0 0] _ _ HR1.out
  have HBN := Lib.hid (below_setRow (g := B + 1) HB1.out (by have := HBW.out; omega) #[.int .i64 0, .int .i64 0, .slice none 0 0])
  rw [part3r HR1.out (.int .i64 0) (.int .i64 0) (.slice none 0 0)]
  exact bodyPost_ret (v := .tuple #[.agg #[.int .i64 0, .int .i64 0, .slice none 0 0], .int .i64 1]) (results_row2 (t := 44) Tryd.results10 rfl rfl hN Tryd.underlying44 rfl HI.out) rfl ⟨rfl, HBN.out⟩

theorem info_fixq : (Tryd.prog.info? 71).map (fun i => (i.zero, i.size, i.bytes)) = some (some (.int .i64 0), 1, 8) := by kernel_rfl

set_option maxHeartbeats 4000000 in
set_option maxRecDepth 100000 in
theorem depths_yes (W H : Int) (al ad an ab ax af : Option Addr) (cl cd cn cb cx cf nl nd nn nb nf : Nat) (L D N Bb S F : Nat → Int) (w : World) (hA : Fm.FAt w (⟨W, H, nl, nd, nn, nb, nd, nf, L, D, N, Bb, S, F⟩ : Fm.Flm) (⟨al, cl, ad, cd, an, cn, ab, cb, ax, cx, af, cf⟩ : Fm.Pl)) (h : Fm.okF (⟨W, H, nl, nd, nn, nb, nd, nf, L, D, N, Bb, S, F⟩ : Fm.Flm)) (hn : nd ≤ 5000) : Calls Tryd.prog 10 #[.agg #[.int .i64 W, .int .i64 H, .slice al nl cl, .slice ad nd cd, .slice an nn cn, .slice ab nb cb, .slice ax nd cx, .slice af nf cf]] w fun e' w' => ∃ v, e' = .returned (.tuple #[.agg #[.int .i64 W, .int .i64 H, v], .int .i64 0]) ∧ w'.ownsRow w.heap.size 69 3 v nd (fl8 (fun j => Pl.shade (near (D (j / 3)) (S (j / 3)))) nd) ∧ Below w.heap.size w w' := by
  have k := fun w hA => Fm.fright_any (⟨W, H, nl, nd, nn, nb, nd, nf, L, D, N, Bb, S, F⟩ : Fm.Flm) (⟨al, cl, ad, cd, an, cn, ab, cb, ax, cx, af, cf⟩ : Fm.Pl) w hA
  rw [decide_eq_true h] at k
  have HNM := Lib.hid (show (nd : Int) = W * H from h.2.1)
  have HSZ := Lib.hid (show Fm.okSz W H from h.1.1)
  clear h
  have hmk := fun w => run_make_row' (P := Tryd.prog) 37 71 (.int .i64 0) 8 Tryd.underlying37 info_fixq rfl .i64 .i64 nd (by omega) (by omega) w
  have HAT := Lib.hid hA
  clear hA
  obtain ⟨B, hB⟩ : ∃ B, B = w.heap.size := ⟨_, rfl⟩
  go_enter Tryd.func10, Tryd.ntmps10
  go_upto_region 1 with fail
  have hr := rows2 w (.cells #[.int .i64 W, .int .i64 H, .slice al nl cl, .slice ad nd cd, .slice an nn cn, .slice ab nb cb, .slice ax nd cx, .slice af nf cf] 40) (.cells #[.int .i64 0, .int .i64 0, .slice none 0 0] 44)
  have hb := Ve.below_n2 w (.cells #[.int .i64 W, .int .i64 H, .slice al nl cl, .slice ad nd cd, .slice an nn cn, .slice ab nb cb, .slice ax nd cx, .slice af nf cf] 40) (.cells #[.int .i64 0, .int .i64 0, .slice none 0 0] 44)
  obtain ⟨y0, hy0⟩ : ∃ y0, (w.alloc (.cells #[.int .i64 W, .int .i64 H, .slice al nl cl, .slice ad nd cd, .slice an nn cn, .slice ab nb cb, .slice ax nd cx, .slice af nf cf] 40)).alloc (.cells #[.int .i64 0, .int .i64 0, .slice none 0 0] 44) = y0 := ⟨_, rfl⟩
  rw [hy0] at hr hb ⊢
  rw [← hB] at hr ⊢
  have HBW := Lib.hid hB
  have HI := Lib.hid (show (Tryd.prog.info? 44).map (·.size) = some 3 by kernel_rfl)
  have HX := Lib.hid hr.1
  have HR := Lib.hid hr.2
  have HB0 := Lib.hid hb
  clear hy0 hb hB hr
  have c0 := cell_of_row _ _ 0 _ _ _ HX.out
  have c1 := cell_of_row _ _ 1 _ _ _ HX.out
  have c2 := cell_of_row _ _ 2 _ _ _ HX.out
  have c3 := cell_of_row _ _ 3 _ _ _ HX.out
  have c4 := cell_of_row _ _ 4 _ _ _ HX.out
  have c5 := cell_of_row _ _ 5 _ _ _ HX.out
  have c6 := cell_of_row _ _ 6 _ _ _ HX.out
  have c7 := cell_of_row _ _ 7 _ _ _ HX.out
  simp at c0 c1 c2 c3 c4 c5 c6 c7
  go_upto_region 3 with (go_at_call 36; refine (k _ (HAT.out.on HB0.out)).mono ?_; rintro e y1 ⟨rfl, hb1⟩)
  have HX1 := Lib.hid ((hb1.block _ (lt_heap HX.out)).trans HX.out)
  have HR1 := Lib.hid ((hb1.block _ (lt_heap HR.out)).trans HR.out)
  have HB1 := Lib.hid (HB0.out.trans (hb1.mono HB0.out.size))
  clear hb1 c0 c1 c2 c3 c4 c5 c6 c7 k
  have c0 := cell_of_row _ _ 0 _ _ _ HX1.out
  have c1 := cell_of_row _ _ 1 _ _ _ HX1.out
  have c2 := cell_of_row _ _ 2 _ _ _ HX1.out
  have c3 := cell_of_row _ _ 3 _ _ _ HX1.out
  have c4 := cell_of_row _ _ 4 _ _ _ HX1.out
  have c5 := cell_of_row _ _ 5 _ _ _ HX1.out
  have c6 := cell_of_row _ _ 6 _ _ _ HX1.out
  have c7 := cell_of_row _ _ 7 _ _ _ HX1.out
  simp at c0 c1 c2 c3 c4 c5 c6 c7
  go_upto_region 4 with (go_at_call 37; refine ((show Calls _ _ _ _ (fun e w' => e = .returned (.int .i64 nd) ∧ Below _ _ w') from by rw [HNM.out]; exact Fm.pix_ok W H HSZ.out _)).mono ?_; rintro e y2 ⟨rfl, hb2⟩)
  have HX2 := Lib.hid ((hb2.block _ (lt_heap HX1.out)).trans HX1.out)
  have HR2 := Lib.hid ((hb2.block _ (lt_heap HR1.out)).trans HR1.out)
  have HB2 := Lib.hid (HB1.out.trans (hb2.mono HB1.out.size))
  clear hb2 c0 c1 c2 c3 c4 c5 c6 c7 hmk
  have hb3 := Ve.below_n1 y2 (.cells (madeCells #[.int .i64 0] nd) 71)
  have hri := World.rowIs_made y2 (.int .i64 0) nd 71
  obtain ⟨y3, hy3⟩ : ∃ y, y2.alloc (.cells (madeCells #[.int .i64 0] nd) 71) = y := ⟨_, rfl⟩
  obtain ⟨g, hg⟩ : ∃ q, q = y2.heap.size := ⟨_, rfl⟩
  rw [hy3] at hb3 hri ⊢
  rw [← hg] at hri ⊢
  have hBg : B + 1 < g := by have := lt_heap HR2.out; omega
  have HGW := Lib.hid (show w.heap.size ≤ g by have := HB2.out.size; omega)
  have HX3 := Lib.hid ((hb3.block _ (lt_heap HX2.out)).trans HX2.out)
  have HR3 := Lib.hid ((hb3.block _ (lt_heap HR2.out)).trans HR2.out)
  have HB3 := Lib.hid (HB2.out.trans (hb3.mono HB2.out.size))
  have HRI := Lib.hid hri
  clear hb3 hy3 hri hg
  have c0 := cell_of_row _ _ 0 _ _ _ HX3.out
  have c1 := cell_of_row _ _ 1 _ _ _ HX3.out
  have c2 := cell_of_row _ _ 2 _ _ _ HX3.out
  have c3 := cell_of_row _ _ 3 _ _ _ HX3.out
  have c4 := cell_of_row _ _ 4 _ _ _ HX3.out
  have c5 := cell_of_row _ _ 5 _ _ _ HX3.out
  have c6 := cell_of_row _ _ 6 _ _ _ HX3.out
  have c7 := cell_of_row _ _ 7 _ _ _ HX3.out
  simp at c0 c1 c2 c3 c4 c5 c6 c7
  go_upto_region 5 with fail
  clear c0 c1 c2 c3 c4 c5 c6 c7
  go_loopw [19] (fun v wr => ∃ i : Nat, i ≤ nd ∧ v = .int .i64 i ∧ Hid (wr.rowIs g 71 nd (fun j => if j < i then .int .i64 (near (D j) (S j)) else .int .i64 0)) ∧ Hid (wr.heap[B]? = some (.cells #[.int .i64 W, .int .i64 H, .slice al nl cl, .slice ad nd cd, .slice an nn cn, .slice ab nb cb, .slice ax nd cx, .slice af nf cf] 40 (0, 0))) ∧ Hid (wr.heap[B + 1]? = some (.cells #[.int .i64 0, .int .i64 0, .slice none 0 0] 44 (0, 0))) ∧ Hid (Below w.heap.size w wr)) (fun v _ => nd - (intOf v).toNat)
  case atStart => exact ⟨0, by omega, rfl, Lib.hid (HRI.out.congr fun j _ => by simp), HX3, HR3, HB3⟩
  case round =>
    obtain ⟨i, hiK, rfl, HW, HXw, HRw, HBw⟩ := hrel
    have c0 := cell_of_row _ _ 0 _ _ _ HXw.out
    have c1 := cell_of_row _ _ 1 _ _ _ HXw.out
    have c2 := cell_of_row _ _ 2 _ _ _ HXw.out
    have c3 := cell_of_row _ _ 3 _ _ _ HXw.out
    have c4 := cell_of_row _ _ 4 _ _ _ HXw.out
    have c5 := cell_of_row _ _ 5 _ _ _ HXw.out
    have c6 := cell_of_row _ _ 6 _ _ _ HXw.out
    have c7 := cell_of_row _ _ 7 _ _ _ HXw.out
    simp at c0 c1 c2 c3 c4 c5 c6 c7
    by_cases hlt : i < nd
    · have hlti : (i : Int) < nd := by omega
      obtain ⟨sb, so, hsa, e0⟩ := (HAT.out.d.on HBw.out).at1 hlt
      simp only [] at hsa
      subst hsa
      obtain ⟨sb2, so2, hsa2, f0⟩ := (HAT.out.s.on HBw.out).at1 hlt
      simp only [] at hsa2
      subst hsa2
      simp only [] at e0 f0
      obtain ⟨x0, hx0⟩ : ∃ x, x = D i := ⟨_, rfl⟩
      rw [← hx0] at e0
      obtain ⟨s0, hs0⟩ : ∃ x, x = S i := ⟨_, rfl⟩
      rw [← hs0] at f0
      have HX0 := Lib.hid hx0
      have HS0 := Lib.hid hs0
      clear hx0 hs0
      by_cases hs : s0 < 0
      · have hs1 : ¬ (0 : Int) ≤ s0 := by omega
        go_wp2_with fail
        go_roundw
        case rel =>
          refine ⟨i + 1, by omega, by go_num, Lib.hid (HW.out.congr fun j hj => ?_), HXw, HRw, HBw⟩
          by_cases hji : j = i
          · subst hji
            simp [near, ← HS0.out, hs]
          · by_cases hj2 : j < i
            · simp [hj2, show j < i + 1 by omega]
            · simp [hj2, show ¬ j < i + 1 by omega]
        case measure => simp [intOf]; omega
      · have hs1 : (0 : Int) ≤ s0 := by omega
        have gc := HW.out.cell hlt
        simp at gc
        have gf := HW.out.frozen
        go_wp2_with (first | (go_at_call 39; refine (add_any _ _ _).mono ?_; rintro e w' ⟨rfl, rfl⟩) | (go_at_call 38; refine (div_any _ _ _).mono ?_; rintro e w' ⟨rfl, rfl⟩))
        clear gc gf
        go_roundw
        case rel =>
          refine ⟨i + 1, by omega, by go_num, Lib.hid ((HW.out.set i (.int .i64 (Pl.div 65536 (Pl.add 65536 (max x0 0))))).congr fun j hj => ?_), Lib.hid ((Below.heap_setCell _ _ _ _ (show B ≠ g by omega)).trans HXw.out), Lib.hid ((Below.heap_setCell _ _ _ _ (show B + 1 ≠ g by omega)).trans HRw.out), Lib.hid (HBw.out.setCell HGW.out _)⟩
          by_cases hji : j = i
          · subst hji
            simp [near, ← HS0.out, ← HX0.out]
            intro hh
            omega
          · by_cases hj2 : j < i
            · simp [hji, hj2, show j < i + 1 by omega]
            · simp [hji, hj2, show ¬ j < i + 1 by omega]
        case measure => simp [intOf]; omega
    · have hge : ¬ (i : Int) < nd := by omega
      have hin : i = nd := by omega
      have HRN := Lib.hid (show Fm.Rw 1 wr (some ⟨g, 0, none⟩) nd (fun j => near (D j) (S j)) from .inr ⟨g, 0, rfl, HW.out.lt, fun j hj => by
        have := HW.out.cell (i := j) (by omega)
        rw [if_pos (show j < i by omega)] at this
        simpa using this⟩)
      clear hin
      go_wp2_with fail
      refine (drawn_fix W H (some ⟨g, 0, none⟩) nd nd (fun j => near (D j) (S j)) _ HRN.out hn).mono ?_
      rintro e y5 ⟨⟨v, rfl, ho⟩, hb5⟩
      obtain ⟨av, cv, hv⟩ := own_slice ho
      subst hv
      have HX5 := Lib.hid ((hb5.block _ (lt_heap HXw.out)).trans HXw.out)
      have HR5 := Lib.hid ((hb5.block _ (lt_heap HRw.out)).trans HRw.out)
      have HB5 := Lib.hid (HBw.out.trans (hb5.mono HBw.out.size))
      have HOF := Lib.hid (ownsRow_le_ ho HBw.out.size)
      have HOW := Lib.hid (show ∀ q, (Value.slice av nd cv).ownBlock = some q → q ≠ B + 1 from fun q hq => by have := (ho.lt q hq).1; have := lt_heap HRw.out; omega)
      clear hb5 ho c0 c1 c2 c3 c4 c5 c6 c7
      have s0 := cell_of_row _ _ 0 _ _ _ HR5.out
      have s1 := cell_of_row _ _ 1 _ _ _ HR5.out
      have s2 := cell_of_row _ _ 2 _ _ _ HR5.out
      simp at s0 s1 s2
      have hf : ∀ j, y5.frozen? ⟨B + 1, j, none⟩ = false := fun j => by simp [World.frozen?, HR5.out]
      have hf0 := hf 0
      have hf1 := hf 1
      have hf2 := hf 2
      clear hf
      go_wp2
      have hN := setRow_heap y5 (B + 1) _ #[.int .i64 W, .int .i64 H, .slice av nd cv] _ _ HR5.out
      have HBN := Lib.hid (below_setRow (g := B + 1) HB5.out (by have := HBW.out; omega) #[.int .i64 W, .int .i64 H, .slice av nd cv])
      rw [part3r HR5.out (.int .i64 W) (.int .i64 H) (.slice av nd cv)]
      exact bodyPost_ret (v := .tuple #[.agg #[.int .i64 W, .int .i64 H, .slice av nd cv], .int .i64 0]) (results_row2 (t := 44) Tryd.results10 rfl rfl hN Tryd.underlying44 rfl HI.out) rfl ⟨_, rfl, own_via HOF.out (fun q hq => setRow_other _ _ _ _ (HOW.out q hq)), HBN.out⟩

end Go.Proofs.YtcohehekkeeeoaaDoor.Pq
