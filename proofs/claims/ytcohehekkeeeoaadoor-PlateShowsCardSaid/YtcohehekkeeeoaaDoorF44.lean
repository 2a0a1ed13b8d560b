/- Layer 21 (plate): normals as a picture, by the program. -/
import Derived.Test.YtcohehekkeeeoaaDoorF39
import Derived.Test.YtcohehekkeeeoaaDoorF19
import Derived.Laws.EntriesVeiled
namespace Go.Proofs.YtcohehekkeeeoaaDoor.Pq
open Go Go.RowKit Go.Proofs.YtcohehekkeeeoaaDoor Go.Proofs.YtcohehekkeeeoaaDoor.Re Go.Proofs.YtcohehekkeeeoaaDoor.Au Go.Proofs.YtcohehekkeeeoaaDoor.Pg Go.Proofs.YtcohehekkeeeoaaDoor.Hv Go.Proofs.YtcohehekkeeeoaaDoor.Wa
set_option linter.unusedVariables false
set_option linter.unusedSimpArgs false

set_option maxHeartbeats 2000000 in
set_option maxRecDepth 100000 in
theorem normals_no (W H : Int) (al ad an ab ax af : Option Addr) (cl cd cn cb cx cf nl nd nn nb ns nf : Nat) (L D N Bb S F : Nat → Int) (w : World) (hA : Fm.FAt w (⟨W, H, nl, nd, nn, nb, ns, nf, L, D, N, Bb, S, F⟩ : Fm.Flm) (⟨al, cl, ad, cd, an, cn, ab, cb, ax, cx, af, cf⟩ : Fm.Pl)) (h : ¬ Fm.okF (⟨W, H, nl, nd, nn, nb, ns, nf, L, D, N, Bb, S, F⟩ : Fm.Flm)) : Calls Tryd.prog 11 #[.agg #[.int .i64 W, .int .i64 H, .slice al nl cl, .slice ad nd cd, .slice an nn cn, .slice ab nb cb, .slice ax ns cx, .slice af nf cf]] w fun e' w' => e' = .returned (.tuple #[.agg #[.int .i64 0, .int .i64 0, .slice none 0 0], .int .i64 1]) ∧ Below w.heap.size w w' := by
  have k := fun w hA => Fm.fright_any (⟨W, H, nl, nd, nn, nb, ns, nf, L, D, N, Bb, S, F⟩ : Fm.Flm) (⟨al, cl, ad, cd, an, cn, ab, cb, ax, cx, af, cf⟩ : Fm.Pl) w hA
  rw [decide_eq_false h] at k
  clear h
  have HAT := Lib.hid hA
  clear hA
  obtain ⟨B, hB⟩ : ∃ B, B = w.heap.size := ⟨_, rfl⟩
  go_enter Tryd.func11, Tryd.ntmps11
  go_upto_region 1 with fail
  have hr := rows2 w (.cells #[.int .i64 W, .int .i64 H, .slice al nl cl, .slice ad nd cd, .slice an nn cn, .slice ab nb cb, .slice ax ns cx, .slice af nf cf] 40) (.cells #[.int .i64 0, .int .i64 0, .slice none 0 0] 44)
  have hb := Ve.below_n2 w (.cells #[.int .i64 W, .int .i64 H, .slice al nl cl, .slice ad nd cd, .slice an nn cn, .slice ab nb cb, .slice ax ns cx, .slice af nf cf] 40) (.cells #[.int .i64 0, .int .i64 0, .slice none 0 0] 44)
  obtain ⟨y0, hy0⟩ : ∃ y0, (w.alloc (.cells #[.int .i64 W, .int .i64 H, .slice al nl cl, .slice ad nd cd, .slice an nn cn, .slice ab nb cb, .slice ax ns cx, .slice af nf cf] 40)).alloc (.cells #[.int .i64 0, .int .i64 0, .slice none 0 0] 44) = y0 := ⟨_, rfl⟩
  rw [hy0] at hr hb ⊢
  rw [← hB] at hr ⊢
  have HBW := Lib.hid hB
  have HI := Lib.hid (show (Tryd.prog.info? 44).map (·.size) = some 3 by kernel_rfl)
  have HX := Lib.hid hr.1
  have HR := Lib.hid hr.2
  have HB0 := Lib.hid hb
  clear hy0 hb hB hr
  have c0 := cell_of_row _ _ 0 _ _ _ HX.out
  have c1 := cell_of_row _ _ 1 _ _ _ HX.out
  have c2 := cell_of_row _ _ 2 _ _ _ HX.out
  have c3 := cell_of_row _ _ 3 _ _ _ HX.out
  have c4 := cell_of_row _ _ 4 _ _ _ HX.out
  have c5 := cell_of_row _ _ 5 _ _ _ HX.out
  have c6 := cell_of_row _ _ 6 _ _ _ HX.out
  have c7 := cell_of_row _ _ 7 _ _ _ HX.out
  simp at c0 c1 c2 c3 c4 c5 c6 c7
  go_upto_region 2 with (go_at_call 36; refine (k _ (HAT.out.on HB0.out)).mono ?_; rintro e y1 ⟨rfl, hb1⟩)
  have HX1 := Lib.hid ((hb1.block _ (lt_heap HX.out)).trans HX.out)
  have HR1 := Lib.hid ((hb1.block _ (lt_heap HR.out)).trans HR.out)
  have HB1 := Lib.hid (HB0.out.trans (hb1.mono HB0.out.size))
  clear hb1 c0 c1 c2 c3 c4 c5 c6 c7
  have s0 := cell_of_row _ _ 0 _ _ _ HR1.out
  have s1 := cell_of_row _ _ 1 _ _ _ HR1.out
  have s2 := cell_of_row _ _ 2 _ _ _ HR1.out
  simp at s0 s1 s2
  have hf : ∀ j, y1.frozen? ⟨B + 1, j, none⟩ = false := fun j => by simp [World.frozen?, HR1.out]
  have hf0 := hf 0
  have hf1 := hf 1
  have hf2 := hf 2
  clear hf
  go_wp2
  have hN := setRow_heap y1 (B + 1) _ #[.int .i64 0, .int .i64 0, .slice none 0 0] _ _ HR1.out
  have HBN := Lib.hid (below_setRow (g := B + 1) HB1.out (by have := HBW.out; omega) #[.int .i64 0, .int .i64 0, .slice none 0 0])
  rw [part3r HR1.out (.int .i64 0) (.int .i64 0) (.slice none 0 0)]
  exact bodyPost_ret (v := .tuple #[.agg #[.int .i64 0, .int .i64 0, .slice none 0 0], .int .i64 1]) (results_row2 (t := 44) Tryd.results11 rfl rfl hN Tryd.underlying44 rfl HI.out) rfl ⟨rfl, HBN.out⟩

set_option maxHeartbeats 4000000 in
set_option maxRecDepth 100000 in
theorem normals_yes (W H : Int) (al ad an ab ax af : Option Addr) (cl cd cn cb cx cf nl nd nn nb ns nf : Nat) (L D N Bb S F : Nat → Int) (w : World) (hA : Fm.FAt w (⟨W, H, nl, nd, nn, nb, ns, nf, L, D, N, Bb, S, F⟩ : Fm.Flm) (⟨al, cl, ad, cd, an, cn, ab, cb, ax, cx, af, cf⟩ : Fm.Pl)) (h : Fm.okF (⟨W, H, nl, nd, nn, nb, ns, nf, L, D, N, Bb, S, F⟩ : Fm.Flm)) (hn : nn ≤ 5000) : Calls Tryd.prog 11 #[.agg #[.int .i64 W, .int .i64 H, .slice al nl cl, .slice ad nd cd, .slice an nn cn, .slice ab nb cb, .slice ax ns cx, .slice af nf cf]] w fun e' w' => ∃ v, e' = .returned (.tuple #[.agg #[.int .i64 W, .int .i64 H, v], .int .i64 0]) ∧ w'.ownsRow w.heap.size 69 3 v nn (fl8 (fun j => side (N j)) nn) ∧ Below w.heap.size w w' := by
  have hmf : ∀ (fn : Fn) (first cap : Array Value) (w : World), (Instr.makeFunc fn first cap).run Tryd.prog w = .ok (.func fn first cap) w := fun _ _ _ _ => rfl
  have k := fun w hA => Fm.fright_any (⟨W, H, nl, nd, nn, nb, ns, nf, L, D, N, Bb, S, F⟩ : Fm.Flm) (⟨al, cl, ad, cd, an, cn, ab, cb, ax, cx, af, cf⟩ : Fm.Pl) w hA
  rw [decide_eq_true h] at k
  clear h
  have HAT := Lib.hid hA
  clear hA
  obtain ⟨B, hB⟩ : ∃ B, B = w.heap.size := ⟨_, rfl⟩
  go_enter Tryd.func11, Tryd.ntmps11
  go_upto_region 1 with fail
  have hr := rows2 w (.cells #[.int .i64 W, .int .i64 H, .slice al nl cl, .slice ad nd cd, .slice an nn cn, .slice ab nb cb, .slice ax ns cx, .slice af nf cf] 40) (.cells #[.int .i64 0, .int .i64 0, .slice none 0 0] 44)
  have hb := Ve.below_n2 w (.cells #[.int .i64 W, .int .i64 H, .slice al nl cl, .slice ad nd cd, .slice an nn cn, .slice ab nb cb, .slice ax ns cx, .slice af nf cf] 40) (.cells #[.int .i64 0, .int .i64 0, .slice none 0 0] 44)
  obtain ⟨y0, hy0⟩ : ∃ y0, (w.alloc (.cells #[.int .i64 W, .int .i64 H, .slice al nl cl, .slice ad nd cd, .slice an nn cn, .slice ab nb cb, .slice ax ns cx, .slice af nf cf] 40)).alloc (.cells #[.int .i64 0, .int .i64 0, .slice none 0 0] 44) = y0 := ⟨_, rfl⟩
  rw [hy0] at hr hb ⊢
  rw [← hB] at hr ⊢
  have HBW := Lib.hid hB
  have HI := Lib.hid (show (Tryd.prog.info? 44).map (·.size) = some 3 by kernel_rfl)
  have HX := Lib.hid hr.1
  have HR := Lib.hid hr.2
  have HB0 := Lib.hid hb
  clear hy0 hb hB hr
  have c0 := cell_of_row _ _ 0 _ _ _ HX.out
  have c1 := cell_of_row _ _ 1 _ _ _ HX.out
  have c2 := cell_of_row _ _ 2 _ _ _ HX.out
  have c3 := cell_of_row _ _ 3 _ _ _ HX.out
  have c4 := cell_of_row _ _ 4 _ _ _ HX.out
  have c5 := cell_of_row _ _ 5 _ _ _ HX.out
  have c6 := cell_of_row _ _ 6 _ _ _ HX.out
  have c7 := cell_of_row _ _ 7 _ _ _ HX.out
  simp at c0 c1 c2 c3 c4 c5 c6 c7
  go_upto_region 3 with (go_at_call 36; refine (k _ (HAT.out.on HB0.out)).mono ?_; rintro e y1 ⟨rfl, hb1⟩)
  have HX1 := Lib.hid ((hb1.block _ (lt_heap HX.out)).trans HX.out)
  have HR1 := Lib.hid ((hb1.block _ (lt_heap HR.out)).trans HR.out)
  have HB1 := Lib.hid (HB0.out.trans (hb1.mono HB0.out.size))
  clear hb1 c0 c1 c2 c3 c4 c5 c6 c7 k
  go_upto_region 4 with fail
  have hb3 := Ve.below_n1 y1 (.cells #[.func (.func 43) #[] #[]] 87)
  have hp3 := heap_alloc_last y1 (.cells #[.func (.func 43) #[] #[]] 87)
  obtain ⟨y3, hy3⟩ : ∃ y, y1.alloc (.cells #[.func (.func 43) #[] #[]] 87) = y := ⟨_, rfl⟩
  obtain ⟨pb, hpb⟩ : ∃ q, q = y1.heap.size := ⟨_, rfl⟩
  rw [hy3] at hb3 hp3 ⊢
  rw [← hpb] at hp3 ⊢
  have hBp : B + 1 < pb := by have := lt_heap HR1.out; omega
  clear hy3 hpb
  have HX3 := Lib.hid ((hb3.block _ (lt_heap HX1.out)).trans HX1.out)
  have HR3 := Lib.hid ((hb3.block _ (lt_heap HR1.out)).trans HR1.out)
  have HB3 := Lib.hid (HB1.out.trans (hb3.mono HB1.out.size))
  have HP := Lib.hid hp3
  clear hb3 hp3
  have c0 := cell_of_row _ _ 0 _ _ _ HX3.out
  have c1 := cell_of_row _ _ 1 _ _ _ HX3.out
  have c2 := cell_of_row _ _ 2 _ _ _ HX3.out
  have c3 := cell_of_row _ _ 3 _ _ _ HX3.out
  have c4 := cell_of_row _ _ 4 _ _ _ HX3.out
  have c5 := cell_of_row _ _ 5 _ _ _ HX3.out
  have c6 := cell_of_row _ _ 6 _ _ _ HX3.out
  have c7 := cell_of_row _ _ 7 _ _ _ HX3.out
  simp at c0 c1 c2 c3 c4 c5 c6 c7
  go_wp2_with fail
  refine (drawn_vec W H an nn cn N pb _ _ (HAT.out.n.on HB3.out) hn HP.out).mono ?_
  rintro e y2 ⟨⟨v, rfl, ho⟩, hb2⟩
  obtain ⟨av, cv, hv⟩ := own_slice ho
  subst hv
  have HX2 := Lib.hid ((hb2.block _ (lt_heap HX3.out)).trans HX3.out)
  have HR2 := Lib.hid ((hb2.block _ (lt_heap HR3.out)).trans HR3.out)
  have HB2 := Lib.hid (HB3.out.trans (hb2.mono HB3.out.size))
  have HOF := Lib.hid (ownsRow_le_ ho HB3.out.size)
  have HOW := Lib.hid (show ∀ q, (Value.slice av nn cv).ownBlock = some q → q ≠ B + 1 from fun q hq => by have := (ho.lt q hq).1; have := lt_heap HR3.out; omega)
  clear hb2 ho c0 c1 c2 c3 c4 c5 c6 c7
  have s0 := cell_of_row _ _ 0 _ _ _ HR2.out
  have s1 := cell_of_row _ _ 1 _ _ _ HR2.out
  have s2 := cell_of_row _ _ 2 _ _ _ HR2.out
  simp at s0 s1 s2
  have hf : ∀ j, y2.frozen? ⟨B + 1, j, none⟩ = false := fun j => by simp [World.frozen?, HR2.out]
  have hf0 := hf 0
  have hf1 := hf 1
  have hf2 := hf 2
  clear hf
  go_wp2
  have hN := setRow_heap y2 (B + 1) _ #[.int .i64 W, .int .i64 H, .slice av nn cv] _ _ HR2.out
  have HBN := Lib.hid (below_setRow (g := B + 1) HB2.out (by have := HBW.out; omega) #[.int .i64 W, .int .i64 H, .slice av nn cv])
  rw [part3r HR2.out (.int .i64 W) (.int .i64 H) (.slice av nn cv)]
  exact bodyPost_ret (v := .tuple #[.agg #[.int .i64 W, .int .i64 H, .slice av nn cv], .int .i64 0]) (results_row2 (t := 44) Tryd.results11 rfl rfl hN Tryd.underlying44 rfl HI.out) rfl ⟨_, rfl, own_via HOF.out (fun q hq => setRow_other _ _ _ _ (HOW.out q hq)), HBN.out⟩

end Go.Proofs.YtcohehekkeeeoaaDoor.Pq
