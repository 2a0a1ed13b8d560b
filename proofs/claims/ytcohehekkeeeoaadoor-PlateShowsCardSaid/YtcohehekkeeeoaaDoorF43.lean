/- Layer 21 (plate): a sheet as a picture, by the program. -/
import Derived.Test.YtcohehekkeeeoaaDoorF36
import Derived.Test.YtcohehekkeeeoaaDoorF19
import Derived.Laws.EntriesVeiled
namespace Go.Proofs.YtcohehekkeeeoaaDoor.Pq
open Go Go.RowKit Go.Proofs.YtcohehekkeeeoaaDoor Go.Proofs.YtcohehekkeeeoaaDoor.Re Go.Proofs.YtcohehekkeeeoaaDoor.Au Go.Proofs.YtcohehekkeeeoaaDoor.Pg Go.Proofs.YtcohehekkeeeoaaDoor.Hv Go.Proofs.YtcohehekkeeeoaaDoor.Wa
set_option linter.unusedVariables false
set_option linter.unusedSimpArgs false

set_option maxHeartbeats 2000000 in
set_option maxRecDepth 100000 in
theorem show_no (W H : Int) (a : Option Addr) (n c : Nat) (w : World) (h : ¬ Fm.okSh W H n) : Calls Tryd.prog 9 #[.agg #[.int .i64 W, .int .i64 H, .slice a n c]] w fun e' w' => e' = .returned (.tuple #[.agg #[.int .i64 0, .int .i64 0, .slice none 0 0], .int .i64 1]) ∧ Below w.heap.size w w' := by
  have k := fun w => Fm.shright_any W H a n c w
  rw [decide_eq_false h] at k
  clear h
  obtain ⟨B, hB⟩ : ∃ B, B = w.heap.size := ⟨_, rfl⟩
  go_enter Tryd.func9, Tryd.ntmps9
  go_upto_region 1 with fail
  have hr := rows2 w (.cells #[.int .i64 W, .int .i64 H, .slice a n c] 36) (.cells #[.int .i64 0, .int .i64 0, .slice none 0 0] 44)
  have hb := Ve.below_n2 w (.cells #[.int .i64 W, .int .i64 H, .slice a n c] 36) (.cells #[.int .i64 0, .int .i64 0, .slice none 0 0] 44)
  obtain ⟨y0, hy0⟩ : ∃ y0, (w.alloc (.cells #[.int .i64 W, .int .i64 H, .slice a n c] 36)).alloc (.cells #[.int .i64 0, .int .i64 0, .slice none 0 0] 44) = y0 := ⟨_, rfl⟩
  rw [hy0] at hr hb ⊢
  rw [← hB] at hr ⊢
  have HBW := Lib.hid hB
  have HI := Lib.hid (show (Tryd.prog.info? 44).map (·.size) = some 3 by kernel_rfl)
  have HX := Lib.hid hr.1
  have HR := Lib.hid hr.2
  have HB0 := Lib.hid hb
  clear hy0 hb hB hr
  have c0 := cell_of_row _ _ 0 _ _ _ HX.out
  have c1 := cell_of_row _ _ 1 _ _ _ HX.out
  have c2 := cell_of_row _ _ 2 _ _ _ HX.out
  simp at c0 c1 c2
  go_upto_region 2 with (go_at_call 31; refine (k _).mono ?_; rintro e y1 ⟨rfl, hb1⟩)
  have HX1 := Lib.hid ((hb1.block _ (lt_heap HX.out)).trans HX.out)
  have HR1 := Lib.hid ((hb1.block _ (lt_heap HR.out)).trans HR.out)
  have HB1 := Lib.hid (HB0.out.trans (hb1.mono HB0.out.size))
  clear hb1 c0 c1 c2
  have s0 := cell_of_row _ _ 0 _ _ _ HR1.out
  have s1 := cell_of_row _ _ 1 _ _ _ HR1.out
  have s2 := cell_of_row _ _ 2 _ _ _ HR1.out
  simp at s0 s1 s2
  have hf : ∀ j, y1.frozen? ⟨B + 1, j, none⟩ = false := fun j => by simp [World.frozen?, HR1.out]
  have hf0 := hf 0
  have hf1 := hf 1
  have hf2 := hf 2
  clear hf
  go_wp2
  have hN := setRow_heap y1 (B + 1) _ #[.int .i64 0, .int .i64 0, .slice none 0 0] _ _ HR1.out
  have HBN := Lib.hid (below_setRow (g := B + 1) HB1.out (by have := HBW.out; omega) #[.int .i64 0, .int .i64 0, .slice none 0 0])
  rw [part3r HR1.out (.int .i64 0) (.int .i64 0) (.slice none 0 0)]
  exact bodyPost_ret (v := .tuple #[.agg #[.int .i64 0, .int .i64 0, .slice none 0 0], .int .i64 1]) (results_row2 (t := 44) Tryd.results9 rfl rfl hN Tryd.underlying44 rfl HI.out) rfl ⟨rfl, HBN.out⟩

set_option maxHeartbeats 2000000 in
set_option maxRecDepth 100000 in
theorem show_yes (W H : Int) (a : Option Addr) (n c : Nat) (L : Nat → Int) (w : World) (h : Fm.okSh W H n) (hL : Fm.Rw 3 w a n L) (hn : n ≤ 5000) : Calls Tryd.prog 9 #[.agg #[.int .i64 W, .int .i64 H, .slice a n c]] w fun e' w' => ∃ v, e' = .returned (.tuple #[.agg #[.int .i64 W, .int .i64 H, v], .int .i64 0]) ∧ w'.ownsRow w.heap.size 69 3 v n (fl8 (fun j => Pl.shade (Pl.tone (max (L j) 0))) n) ∧ Below w.heap.size w w' := by
  have k := fun w => Fm.shright_any W H a n c w
  rw [decide_eq_true h] at k
  clear h
  have HL := Lib.hid hL
  clear hL
  obtain ⟨B, hB⟩ : ∃ B, B = w.heap.size := ⟨_, rfl⟩
  go_enter Tryd.func9, Tryd.ntmps9
  go_upto_region 1 with fail
  have hr := rows2 w (.cells #[.int .i64 W, .int .i64 H, .slice a n c] 36) (.cells #[.int .i64 0, .int .i64 0, .slice none 0 0] 44)
  have hb := Ve.below_n2 w (.cells #[.int .i64 W, .int .i64 H, .slice a n c] 36) (.cells #[.int .i64 0, .int .i64 0, .slice none 0 0] 44)
  obtain ⟨y0, hy0⟩ : ∃ y0, (w.alloc (.cells #[.int .i64 W, .int .i64 H, .slice a n c] 36)).alloc (.cells #[.int .i64 0, .int .i64 0, .slice none 0 0] 44) = y0 := ⟨_, rfl⟩
  rw [hy0] at hr hb ⊢
  rw [← hB] at hr ⊢
  have HBW := Lib.hid hB
  have HI := Lib.hid (show (Tryd.prog.info? 44).map (·.size) = some 3 by kernel_rfl)
  have HX := Lib.hid hr.1
  have HR := Lib.hid hr.2
  have HB0 := Lib.hid hb
  clear hy0 hb hB hr
  have c0 := cell_of_row _ _ 0 _ _ _ HX.out
  have c1 := cell_of_row _ _ 1 _ _ _ HX.out
  have c2 := cell_of_row _ _ 2 _ _ _ HX.out
  simp at c0 c1 c2
  go_upto_region 3 with (go_at_call 31; refine (k _).mono ?_; rintro e y1 ⟨rfl, hb1⟩)
  have HX1 := Lib.hid ((hb1.block _ (lt_heap HX.out)).trans HX.out)
  have HR1 := Lib.hid ((hb1.block _ (lt_heap HR.out)).trans HR.out)
  have HB1 := Lib.hid (HB0.out.trans (hb1.mono HB0.out.size))
  clear hb1 c0 c1 c2 k
  have c0 := cell_of_row _ _ 0 _ _ _ HX1.out
  have c1 := cell_of_row _ _ 1 _ _ _ HX1.out
  have c2 := cell_of_row _ _ 2 _ _ _ HX1.out
  simp at c0 c1 c2
  go_wp2_with fail
  refine (drawn_hue W H a n c L _ (HL.out.on HB1.out) hn).mono ?_
  rintro e y2 ⟨⟨v, rfl, ho⟩, hb2⟩
  obtain ⟨av, cv, hv⟩ := own_slice ho
  subst hv
  have HX2 := Lib.hid ((hb2.block _ (lt_heap HX1.out)).trans HX1.out)
  have HR2 := Lib.hid ((hb2.block _ (lt_heap HR1.out)).trans HR1.out)
  have HB2 := Lib.hid (HB1.out.trans (hb2.mono HB1.out.size))
  have HOF := Lib.hid (ownsRow_le_ ho HB1.out.size)
  have HOW := Lib.hid (show ∀ q, (Value.slice av n cv).ownBlock = some q → q ≠ B + 1 from fun q hq => by have := (ho.lt q hq).1; have := lt_heap HR1.out; omega)
  clear hb2 ho c0 c1 c2
  have s0 := cell_of_row _ _ 0 _ _ _ HR2.out
  have s1 := cell_of_row _ _ 1 _ _ _ HR2.out
  have s2 := cell_of_row _ _ 2 _ _ _ HR2.out
  simp at s0 s1 s2
  have hf : ∀ j, y2.frozen? ⟨B + 1, j, none⟩ = false := fun j => by simp [World.frozen?, HR2.out]
  have hf0 := hf 0
  have hf1 := hf 1
  have hf2 := hf 2
  clear hf
  go_wp2
  have hN := setRow_heap y2 (B + 1) _ #[.int .i64 W, .int .i64 H, .slice av n cv] _ _ HR2.out
  have HBN := Lib.hid (below_setRow (g := B + 1) HB2.out (by have := HBW.out; omega) #[.int .i64 W, .int .i64 H, .slice av n cv])
  rw [part3r HR2.out (.int .i64 W) (.int .i64 H) (.slice av n cv)]
  exact bodyPost_ret (v := .tuple #[.agg #[.int .i64 W, .int .i64 H, .slice av n cv], .int .i64 0]) (results_row2 (t := 44) Tryd.results9 rfl rfl hN Tryd.underlying44 rfl HI.out) rfl ⟨_, rfl, own_via HOF.out (fun q hq => setRow_other _ _ _ _ (HOW.out q hq)), HBN.out⟩

end Go.Proofs.YtcohehekkeeeoaaDoor.Pq
