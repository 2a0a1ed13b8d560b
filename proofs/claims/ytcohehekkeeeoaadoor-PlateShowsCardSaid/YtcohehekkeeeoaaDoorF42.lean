/- Layer 21 (plate): the same pictures; dots as bytes; films that aren't too great. -/
import Derived.Test.YtcohehekkeeeoaaDoorF31
import Derived.Test.YtcohehekkeeeoaaDoorF36
import Derived.Test.YtcohehekkeeeoaaDoorF18
import Derived.BigQuiet
namespace Go.Proofs.YtcohehekkeeeoaaDoor.Pq
open Go Go.RowKit Go.Proofs.YtcohehekkeeeoaaDoor Go.Proofs.YtcohehekkeeeoaaDoor.Re Go.Proofs.YtcohehekkeeeoaaDoor.Au Go.Proofs.YtcohehekkeeeoaaDoor.Pg
set_option linter.unusedVariables false
set_option linter.unusedSimpArgs false

set_option maxHeartbeats 2000000 in
set_option maxRecDepth 100000 in
theorem from_any (x y : Int) (a : Option Addr) (n c : Nat) (w : World) : Calls Tryd.prog 15 #[.agg #[.int .i64 x, .int .i64 y, .slice a n c]] w fun e' w' => e' = .returned (.agg #[.int .i64 x, .int .i64 y, .slice a n c]) ∧ Below w.heap.size w w' := by
  go_enter Tryd.func15, Tryd.ntmps15
  go_upto_region 1 with fail
  have hr := rows2 w (.cells #[.int .i64 x, .int .i64 y, .slice a n c] 44) (.cells #[.int .i64 0, .int .i64 0, .slice none 0 0] 52)
  have hb := Ve.below_n2 w (.cells #[.int .i64 x, .int .i64 y, .slice a n c] 44) (.cells #[.int .i64 0, .int .i64 0, .slice none 0 0] 52)
  obtain ⟨y0, hy0⟩ : ∃ y0, (w.alloc (.cells #[.int .i64 x, .int .i64 y, .slice a n c] 44)).alloc (.cells #[.int .i64 0, .int .i64 0, .slice none 0 0] 52) = y0 := ⟨_, rfl⟩
  rw [hy0] at hr hb ⊢
  clear hy0
  have c0 := cell_of_row _ _ 0 _ _ _ hr.1
  have c1 := cell_of_row _ _ 1 _ _ _ hr.1
  have c2 := cell_of_row _ _ 2 _ _ _ hr.1
  have s0 := cell_of_row _ _ 0 _ _ _ hr.2
  have s1 := cell_of_row _ _ 1 _ _ _ hr.2
  have s2 := cell_of_row _ _ 2 _ _ _ hr.2
  simp at c0 c1 c2 s0 s1 s2
  have hf : ∀ j, y0.frozen? ⟨w.heap.size + 1, j, none⟩ = false := fun j => by simp [World.frozen?, hr.2]
  have hf0 := hf 0
  have hf1 := hf 1
  have hf2 := hf 2
  have HR := Lib.hid hr.2
  have HB := Lib.hid hb
  have HI := Lib.hid (show (Tryd.prog.info? 52).map (·.size) = some 3 by kernel_rfl)
  clear hf hr hb
  go_wp2
  have hN := setRow_heap y0 (w.heap.size + 1) _ #[.int .i64 x, .int .i64 y, .slice a n c] _ _ HR.out
  have HBN := Lib.hid (below_setRow (g := w.heap.size + 1) HB.out (by omega) #[.int .i64 x, .int .i64 y, .slice a n c])
  rw [part3r HR.out (.int .i64 x) (.int .i64 y) (.slice a n c)]
  exact bodyPost_ret (v := .agg #[.int .i64 x, .int .i64 y, .slice a n c]) (results_row (t := 52) Tryd.results15 rfl hN Tryd.underlying52 rfl HI.out) rfl ⟨rfl, HBN.out⟩

theorem cells_u8 : Tryd.prog.cellsOf 5 = 1 := by kernel_rfl

theorem eq_d3 (x y z : Int) (W : World) : (Op.equalIn 10000 69 (.agg #[.int .u8 x, .int .u8 y, .int .u8 z]) (.agg #[.int .u8 x, .int .u8 y, .int .u8 z])).run Tryd.prog W = .ok true W := by
  obtain ⟨i0, hi, hz0, hz1, hz2⟩ := info_parts infoByte
  rw [run_equalIn_array W 9999 _ _ Tryd.underlying69 hi, cells_u8]
  simp only [show List.range 3 = [0, 1, 2] from rfl, Op.eqItems, Sem.run_bind]
  simp [go_sem]

set_option maxHeartbeats 4000000 in
set_option maxRecDepth 100000 in
theorem same_any (W H : Int) (n : Nat) (a a' : Option Addr) (c c' : Nat) (D : List UInt8) (w : World) (h1 : Dt w a n D) (h2 : Dt w a' n D) (hn : n ≤ 140737488351232) : Calls Tryd.prog 14 #[.agg #[.int .i64 W, .int .i64 H, .slice a n c], .agg #[.int .i64 W, .int .i64 H, .slice a' n c']] w fun e' w' => e' = .returned (.bool true) ∧ Below w.heap.size w w' := by
  have HAl := Lib.hid h1
  have HBl := Lib.hid h2
  clear h1 h2
  go_enter Tryd.func14, Tryd.ntmps14
  go_upto_region 1 with fail
  have hR := Au.rows2 w (.cells #[.int .i64 W, .int .i64 H, .slice a n c] 52) (.cells #[.int .i64 W, .int .i64 H, .slice a' n c'] 52)
  have HUx := Ve.below_n2 w (.cells #[.int .i64 W, .int .i64 H, .slice a n c] 52) (.cells #[.int .i64 W, .int .i64 H, .slice a' n c'] 52)
  obtain ⟨y0, hy0⟩ : ∃ y0, (w.alloc (.cells #[.int .i64 W, .int .i64 H, .slice a n c] 52)).alloc (.cells #[.int .i64 W, .int .i64 H, .slice a' n c'] 52) = y0 := ⟨_, rfl⟩
  rw [hy0] at hR HUx ⊢
  clear hy0
  have HU0 := Lib.hid HUx
  clear HUx
  obtain ⟨hr0_0, hr0_1⟩ := hR
  have c0_0 := cell_of_row _ _ 0 _ _ _ hr0_0
  have c0_1 := cell_of_row _ _ 1 _ _ _ hr0_0
  have c0_2 := cell_of_row _ _ 2 _ _ _ hr0_0
  have c1_0 := cell_of_row _ _ 0 _ _ _ hr0_1
  have c1_1 := cell_of_row _ _ 1 _ _ _ hr0_1
  have c1_2 := cell_of_row _ _ 2 _ _ _ hr0_1
  simp at c0_0 c0_1 c0_2 c1_0 c1_1 c1_2
  have HW := Lib.hid (Below.refl y0.heap.size y0)
  go_wp2_with fail
  go_loopw [5] (fun ix wr => ∃ k : Nat, k ≤ n ∧ ix = .int .i64 k ∧ Hid (Below y0.heap.size y0 wr)) (fun ix _ => n - (intOf ix).toNat)
  case atStart => exact ⟨0, Nat.zero_le _, rfl, HW⟩
  case round =>
    clear HW
    obtain ⟨k1, hk1, rfl, HW⟩ := hrel
    have hww := HU0.out.trans (HW.out.mono HU0.out.size)
    have d1 := cell_of_row _ _ 2 _ _ _ ((HW.out.block _ (lt_heap hr0_0)).trans hr0_0)
    have d2 := cell_of_row _ _ 2 _ _ _ ((HW.out.block _ (lt_heap hr0_1)).trans hr0_1)
    simp at d1 d2
    by_cases hlt : k1 < n
    · have hlt' : (k1 : Int) < n := by omega
      obtain ⟨sb, so, hsa, e0, e1, e2⟩ := (HAl.out.on hww).at hlt
      obtain ⟨sb', so', hsb, f0, f1, f2⟩ := (HBl.out.on hww).at hlt
      rw [hsa] at d1
      rw [hsb] at d2
      obtain ⟨x0, hx0⟩ : ∃ x, x = ((bn D (k1 * 3) : Nat) : Int) := ⟨_, rfl⟩
      rw [← hx0] at e0 f0
      clear hx0
      obtain ⟨x1, hx1⟩ : ∃ x, x = ((bn D (k1 * 3 + 1) : Nat) : Int) := ⟨_, rfl⟩
      rw [← hx1] at e1 f1
      clear hx1
      obtain ⟨x2, hx2⟩ : ∃ x, x = ((bn D (k1 * 3 + 2) : Nat) : Int) := ⟨_, rfl⟩
      rw [← hx2] at e2 f2
      clear hx2
      have he : ∀ W, (Op.equalIn 10000 69 (.agg #[.int .u8 x0, .int .u8 x1, .int .u8 x2]) (.agg #[.int .u8 x0, .int .u8 x1, .int .u8 x2])).run Tryd.prog W = .ok true W := eq_d3 _ _ _
      clear hsa hsb
      go_wp2_with fail
      go_quiet (fail)
      go_wp2
      go_roundw
      case rel => exact ⟨k1 + 1, by omega, by go_num, Lib.hid (drawnB HW.out _)⟩
      case measure => simp [intOf]; omega
    · have hge : ¬ (k1 : Int) < n := by omega
      clear hlt
      go_wp2
      exact bodyPost_ret (v := .bool true) (by simp [results, Tryd.results14, go_sem]) rfl ⟨rfl, hww⟩



/-- dots as bytes -/
def dl (G : Nat → Int) : Nat → List UInt8
  | 0 => []
  | k + 1 => dl G k ++ [UInt8.ofNat (G (k * 3)).toNat, UInt8.ofNat (G (k * 3 + 1)).toNat, UInt8.ofNat (G (k * 3 + 2)).toNat]

theorem dl_len (G : Nat → Int) : ∀ k, (dl G k).length = 3 * k
  | 0 => rfl
  | k + 1 => by simp [dl, dl_len G k]; omega

theorem u8_of {x : Int} (h : 0 ≤ x ∧ x ≤ 255) : (((UInt8.ofNat x.toNat).toNat : Nat) : Int) = x := by
  rw [UInt8.toNat_ofNat']
  omega

theorem fl8_vals {G : Nat → Int} (hG : ∀ j, 0 ≤ G j ∧ G j ≤ 255) : ∀ k, fl8 G k = vals (dl G k)
  | 0 => rfl
  | k + 1 => by
    rw [fl8, dl, fl8_vals hG k, vals_append]
    congr 1
    simp only [vals, List.map_cons, List.map_nil]
    rw [u8_of (hG _), u8_of (hG _), u8_of (hG _)]

theorem own_dt {w : World} {base n c : Nat} {e : TypeId} {a : Option Addr} {G : Nat → Int} (hG : ∀ j, 0 ≤ G j ∧ G j ≤ 255) (h : w.ownsRow base e 3 (.slice a n c) n (fl8 G n)) : Dt w a n (dl G n) :=
  dt_own (dl_len G n) (by rw [← fl8_vals hG]; exact h)


set_option maxRecDepth 100000 in
theorem light_n0 (W H : Int) (al ad an ab ax af : Option Addr) (cl cd cn cb cx cf nl nd nn nb ns nf : Nat) (w : World) (h0 : ¬ nl ≤ 5000) : Calls Tryd.prog 6 #[.agg #[.int .i64 W, .int .i64 H, .slice al nl cl, .slice ad nd cd, .slice an nn cn, .slice ab nb cb, .slice ax ns cx, .slice af nf cf]] w fun e' w' => e' = .returned (.bool false) ∧ Below w.heap.size w w' := by
  have d0 : decide ((nl : Int) ≤ 5000) = false := by simp; omega
  go_enter Tryd.func6, Tryd.ntmps6
  go_upto_region 1 with fail
  have hr := heap_alloc_last w (.cells #[.int .i64 W, .int .i64 H, .slice al nl cl, .slice ad nd cd, .slice an nn cn, .slice ab nb cb, .slice ax ns cx, .slice af nf cf] 29)
  have hb := Ve.below_n1 w (.cells #[.int .i64 W, .int .i64 H, .slice al nl cl, .slice ad nd cd, .slice an nn cn, .slice ab nb cb, .slice ax ns cx, .slice af nf cf] 29)
  obtain ⟨y0, hy0⟩ : ∃ y0, w.alloc (.cells #[.int .i64 W, .int .i64 H, .slice al nl cl, .slice ad nd cd, .slice an nn cn, .slice ab nb cb, .slice ax ns cx, .slice af nf cf] 29) = y0 := ⟨_, rfl⟩
  rw [hy0] at hr hb ⊢
  clear hy0
  have c0 := cell_of_row _ _ 0 _ _ _ hr
  have c1 := cell_of_row _ _ 1 _ _ _ hr
  have c2 := cell_of_row _ _ 2 _ _ _ hr
  have c3 := cell_of_row _ _ 3 _ _ _ hr
  have c4 := cell_of_row _ _ 4 _ _ _ hr
  have c5 := cell_of_row _ _ 5 _ _ _ hr
  have c6 := cell_of_row _ _ 6 _ _ _ hr
  have c7 := cell_of_row _ _ 7 _ _ _ hr
  simp at c0 c1 c2 c3 c4 c5 c6 c7
  have HB := Lib.hid hb
  clear hb
  go_wp2
  go_ret
  exact ⟨rfl, HB.out⟩

set_option maxRecDepth 100000 in
theorem light_n1 (W H : Int) (al ad an ab ax af : Option Addr) (cl cd cn cb cx cf nl nd nn nb ns nf : Nat) (w : World) (h0 : nl ≤ 5000) (h1 : ¬ ns ≤ 5000) : Calls Tryd.prog 6 #[.agg #[.int .i64 W, .int .i64 H, .slice al nl cl, .slice ad nd cd, .slice an nn cn, .slice ab nb cb, .slice ax ns cx, .slice af nf cf]] w fun e' w' => e' = .returned (.bool false) ∧ Below w.heap.size w w' := by
  have d0 : decide ((nl : Int) ≤ 5000) = true := by simp; omega
  have d1 : decide ((ns : Int) ≤ 5000) = false := by simp; omega
  go_enter Tryd.func6, Tryd.ntmps6
  go_upto_region 1 with fail
  have hr := heap_alloc_last w (.cells #[.int .i64 W, .int .i64 H, .slice al nl cl, .slice ad nd cd, .slice an nn cn, .slice ab nb cb, .slice ax ns cx, .slice af nf cf] 29)
  have hb := Ve.below_n1 w (.cells #[.int .i64 W, .int .i64 H, .slice al nl cl, .slice ad nd cd, .slice an nn cn, .slice ab nb cb, .slice ax ns cx, .slice af nf cf] 29)
  obtain ⟨y0, hy0⟩ : ∃ y0, w.alloc (.cells #[.int .i64 W, .int .i64 H, .slice al nl cl, .slice ad nd cd, .slice an nn cn, .slice ab nb cb, .slice ax ns cx, .slice af nf cf] 29) = y0 := ⟨_, rfl⟩
  rw [hy0] at hr hb ⊢
  clear hy0
  have c0 := cell_of_row _ _ 0 _ _ _ hr
  have c1 := cell_of_row _ _ 1 _ _ _ hr
  have c2 := cell_of_row _ _ 2 _ _ _ hr
  have c3 := cell_of_row _ _ 3 _ _ _ hr
  have c4 := cell_of_row _ _ 4 _ _ _ hr
  have c5 := cell_of_row _ _ 5 _ _ _ hr
  have c6 := cell_of_row _ _ 6 _ _ _ hr
  have c7 := cell_of_row _ _ 7 _ _ _ hr
  simp at c0 c1 c2 c3 c4 c5 c6 c7
  have HB := Lib.hid hb
  clear hb
  go_wp2
  go_ret
  exact ⟨rfl, HB.out⟩

set_option maxRecDepth 100000 in
theorem light_n2 (W H : Int) (al ad an ab ax af : Option Addr) (cl cd cn cb cx cf nl nd nn nb ns nf : Nat) (w : World) (h0 : nl ≤ 5000) (h1 : ns ≤ 5000) (h2 : ¬ nd ≤ 5000) : Calls Tryd.prog 6 #[.agg #[.int .i64 W, .int .i64 H, .slice al nl cl, .slice ad nd cd, .slice an nn cn, .slice ab nb cb, .slice ax ns cx, .slice af nf cf]] w fun e' w' => e' = .returned (.bool false) ∧ Below w.heap.size w w' := by
  have d0 : decide ((nl : Int) ≤ 5000) = true := by simp; omega
  have d1 : decide ((ns : Int) ≤ 5000) = true := by simp; omega
  have d2 : decide ((nd : Int) ≤ 5000) = false := by simp; omega
  go_enter Tryd.func6, Tryd.ntmps6
  go_upto_region 1 with fail
  have hr := heap_alloc_last w (.cells #[.int .i64 W, .int .i64 H, .slice al nl cl, .slice ad nd cd, .slice an nn cn, .slice ab nb cb, .slice ax ns cx, .slice af nf cf] 29)
  have hb := Ve.below_n1 w (.cells #[.int .i64 W, .int .i64 H, .slice al nl cl, .slice ad nd cd, .slice an nn cn, .slice ab nb cb, .slice ax ns cx, .slice af nf cf] 29)
  obtain ⟨y0, hy0⟩ : ∃ y0, w.alloc (.cells #[.int .i64 W, .int .i64 H, .slice al nl cl, .slice ad nd cd, .slice an nn cn, .slice ab nb cb, .slice ax ns cx, .slice af nf cf] 29) = y0 := ⟨_, rfl⟩
  rw [hy0] at hr hb ⊢
  clear hy0
  have c0 := cell_of_row _ _ 0 _ _ _ hr
  have c1 := cell_of_row _ _ 1 _ _ _ hr
  have c2 := cell_of_row _ _ 2 _ _ _ hr
  have c3 := cell_of_row _ _ 3 _ _ _ hr
  have c4 := cell_of_row _ _ 4 _ _ _ hr
  have c5 := cell_of_row _ _ 5 _ _ _ hr
  have c6 := cell_of_row _ _ 6 _ _ _ hr
  have c7 := cell_of_row _ _ 7 _ _ _ hr
  simp at c0 c1 c2 c3 c4 c5 c6 c7
  have HB := Lib.hid hb
  clear hb
  go_wp2
  go_ret
  exact ⟨rfl, HB.out⟩

set_option maxRecDepth 100000 in
theorem light_n3 (W H : Int) (al ad an ab ax af : Option Addr) (cl cd cn cb cx cf nl nd nn nb ns nf : Nat) (w : World) (h0 : nl ≤ 5000) (h1 : ns ≤ 5000) (h2 : nd ≤ 5000) (h3 : ¬ nn ≤ 5000) : Calls Tryd.prog 6 #[.agg #[.int .i64 W, .int .i64 H, .slice al nl cl, .slice ad nd cd, .slice an nn cn, .slice ab nb cb, .slice ax ns cx, .slice af nf cf]] w fun e' w' => e' = .returned (.bool false) ∧ Below w.heap.size w w' := by
  have d0 : decide ((nl : Int) ≤ 5000) = true := by simp; omega
  have d1 : decide ((ns : Int) ≤ 5000) = true := by simp; omega
  have d2 : decide ((nd : Int) ≤ 5000) = true := by simp; omega
  have d3 : decide ((nn : Int) ≤ 5000) = false := by simp; omega
  go_enter Tryd.func6, Tryd.ntmps6
  go_upto_region 1 with fail
  have hr := heap_alloc_last w (.cells #[.int .i64 W, .int .i64 H, .slice al nl cl, .slice ad nd cd, .slice an nn cn, .slice ab nb cb, .slice ax ns cx, .slice af nf cf] 29)
  have hb := Ve.below_n1 w (.cells #[.int .i64 W, .int .i64 H, .slice al nl cl, .slice ad nd cd, .slice an nn cn, .slice ab nb cb, .slice ax ns cx, .slice af nf cf] 29)
  obtain ⟨y0, hy0⟩ : ∃ y0, w.alloc (.cells #[.int .i64 W, .int .i64 H, .slice al nl cl, .slice ad nd cd, .slice an nn cn, .slice ab nb cb, .slice ax ns cx, .slice af nf cf] 29) = y0 := ⟨_, rfl⟩
  rw [hy0] at hr hb ⊢
  clear hy0
  have c0 := cell_of_row _ _ 0 _ _ _ hr
  have c1 := cell_of_row _ _ 1 _ _ _ hr
  have c2 := cell_of_row _ _ 2 _ _ _ hr
  have c3 := cell_of_row _ _ 3 _ _ _ hr
  have c4 := cell_of_row _ _ 4 _ _ _ hr
  have c5 := cell_of_row _ _ 5 _ _ _ hr
  have c6 := cell_of_row _ _ 6 _ _ _ hr
  have c7 := cell_of_row _ _ 7 _ _ _ hr
  simp at c0 c1 c2 c3 c4 c5 c6 c7
  have HB := Lib.hid hb
  clear hb
  go_wp2
  go_ret
  exact ⟨rfl, HB.out⟩

set_option maxRecDepth 100000 in
theorem light_y (W H : Int) (al ad an ab ax af : Option Addr) (cl cd cn cb cx cf nl nd nn nb ns nf : Nat) (w : World) (h0 : nl ≤ 5000) (h1 : ns ≤ 5000) (h2 : nd ≤ 5000) (h3 : nn ≤ 5000) : Calls Tryd.prog 6 #[.agg #[.int .i64 W, .int .i64 H, .slice al nl cl, .slice ad nd cd, .slice an nn cn, .slice ab nb cb, .slice ax ns cx, .slice af nf cf]] w fun e' w' => e' = .returned (.bool true) ∧ Below w.heap.size w w' := by
  have d0 : decide ((nl : Int) ≤ 5000) = true := by simp; omega
  have d1 : decide ((ns : Int) ≤ 5000) = true := by simp; omega
  have d2 : decide ((nd : Int) ≤ 5000) = true := by simp; omega
  have d3 : decide ((nn : Int) ≤ 5000) = true := by simp; omega
  go_enter Tryd.func6, Tryd.ntmps6
  go_upto_region 1 with fail
  have hr := heap_alloc_last w (.cells #[.int .i64 W, .int .i64 H, .slice al nl cl, .slice ad nd cd, .slice an nn cn, .slice ab nb cb, .slice ax ns cx, .slice af nf cf] 29)
  have hb := Ve.below_n1 w (.cells #[.int .i64 W, .int .i64 H, .slice al nl cl, .slice ad nd cd, .slice an nn cn, .slice ab nb cb, .slice ax ns cx, .slice af nf cf] 29)
  obtain ⟨y0, hy0⟩ : ∃ y0, w.alloc (.cells #[.int .i64 W, .int .i64 H, .slice al nl cl, .slice ad nd cd, .slice an nn cn, .slice ab nb cb, .slice ax ns cx, .slice af nf cf] 29) = y0 := ⟨_, rfl⟩
  rw [hy0] at hr hb ⊢
  clear hy0
  have c0 := cell_of_row _ _ 0 _ _ _ hr
  have c1 := cell_of_row _ _ 1 _ _ _ hr
  have c2 := cell_of_row _ _ 2 _ _ _ hr
  have c3 := cell_of_row _ _ 3 _ _ _ hr
  have c4 := cell_of_row _ _ 4 _ _ _ hr
  have c5 := cell_of_row _ _ 5 _ _ _ hr
  have c6 := cell_of_row _ _ 6 _ _ _ hr
  have c7 := cell_of_row _ _ 7 _ _ _ hr
  simp at c0 c1 c2 c3 c4 c5 c6 c7
  have HB := Lib.hid hb
  clear hb
  go_wp2
  go_ret
  exact ⟨rfl, HB.out⟩

end Go.Proofs.YtcohehekkeeeoaaDoor.Pq
