/- Films: whether sheets and films may be, by the document. -/
import Derived.Test.YtcohehekkeeeoaaDoorF18
namespace Go.Proofs.YtcohehekkeeeoaaDoor.Fm
open Go.RowKit Go.Proofs.YtcohehekkeeeoaaDoor Go.Proofs.YtcohehekkeeeoaaDoor.Rp Go.Proofs.YtcohehekkeeeoaaDoor.Re Go.Proofs.YtcohehekkeeeoaaDoor.Au Go.Proofs.YtcohehekkeeeoaaDoor.Jw
set_option linter.unusedVariables false
set_option linter.unusedSimpArgs false

theorem drsize_any (W H : Int) (w : World) : Calls Tryd.prog 26 #[.int .i64 W, .int .i64 H] w fun e w' => e = .returned (.bool (decide (okSz W H))) ∧ w' = w := by
  obtain ⟨r, hr⟩ : ∃ r, r = decide (okSz W H) := ⟨_, rfl⟩
  rw [← hr]
  by_cases h0 : 1 ≤ W
  · skip
    by_cases h1 : W ≤ 64
    · skip
      by_cases h2 : 1 ≤ H
      · skip
        by_cases h3 : H ≤ 64
        · skip
          have HD := Lib.hid (show r = true by rw [hr]; exact decide_eq_true ⟨h0, h1, h2, h3⟩)
          clear hr
          go_enter Tryd.func26, Tryd.ntmps26
          go_wp2
          go_ret
          exact ⟨by rw [HD.out]; rfl, rfl⟩
        · have HD := Lib.hid (show r = false by rw [hr]; exact decide_eq_false fun k => h3 k.2.2.2)
          clear hr
          go_enter Tryd.func26, Tryd.ntmps26
          go_wp2
          go_ret
          exact ⟨by rw [HD.out]; rfl, rfl⟩
      · have HD := Lib.hid (show r = false by rw [hr]; exact decide_eq_false fun k => h2 k.2.2.1)
        clear hr
        go_enter Tryd.func26, Tryd.ntmps26
        go_wp2
        go_ret
        exact ⟨by rw [HD.out]; rfl, rfl⟩
    · have HD := Lib.hid (show r = false by rw [hr]; exact decide_eq_false fun k => h1 k.2.1)
      clear hr
      go_enter Tryd.func26, Tryd.ntmps26
      go_wp2
      go_ret
      exact ⟨by rw [HD.out]; rfl, rfl⟩
  · have HD := Lib.hid (show r = false by rw [hr]; exact decide_eq_false fun k => h0 k.1)
    clear hr
    go_enter Tryd.func26, Tryd.ntmps26
    go_wp2
    go_ret
    exact ⟨by rw [HD.out]; rfl, rfl⟩

set_option maxHeartbeats 2000000 in
set_option maxRecDepth 100000 in
theorem drsheet_no (W H : Int) (a : Option Addr) (n c : Nat) (w : World) (h : ¬ okSz W H) : Calls Tryd.prog 12 #[.agg #[.int .i64 W, .int .i64 H, .slice a n c]] w fun e' w' => e' = .returned (.bool false) ∧ Below w.heap.size w w' := by
  have Hh := Lib.hid (show decide (okSz W H) = false from decide_eq_false h)
  clear h
  go_enter Tryd.func12, Tryd.ntmps12
  go_upto_region 1 with fail
  have hR := Au.rows1 w (.cells #[.int .i64 W, .int .i64 H, .slice a n c] 24)
  have HUx := Ve.below_n1 w (.cells #[.int .i64 W, .int .i64 H, .slice a n c] 24)
  obtain ⟨y0, hy0⟩ : ∃ y0, w.alloc (.cells #[.int .i64 W, .int .i64 H, .slice a n c] 24) = y0 := ⟨_, rfl⟩
  rw [hy0] at hR HUx ⊢
  clear hy0
  have HU0 := Lib.hid HUx
  clear HUx
  have hr0_0 := hR
  clear hR
  have c0_0 := cell_of_row _ _ 0 _ _ _ hr0_0
  have c0_1 := cell_of_row _ _ 1 _ _ _ hr0_0
  have c0_2 := cell_of_row _ _ 2 _ _ _ hr0_0
  simp at c0_0 c0_1 c0_2
  go_wp2_with fail
  refine (drsize_any W H _).mono ?_
  rintro e ww ⟨rfl, rfl⟩
  rw [Hh.out]
  go_wp2
  go_ret
  exact ⟨rfl, HU0.out⟩

set_option maxHeartbeats 2000000 in
set_option maxRecDepth 100000 in
theorem drsheet_in (W H : Int) (a : Option Addr) (n c : Nat) (w : World) (m : Int) (hm : m = W * H) (h : okSz W H) (hn : (n : Int) = m) : Calls Tryd.prog 12 #[.agg #[.int .i64 W, .int .i64 H, .slice a n c]] w fun e' w' => e' = .returned (.bool true) ∧ Below w.heap.size w w' := by
  have Hh := Lib.hid (show decide (okSz W H) = true from decide_eq_true h)
  obtain ⟨b1, b2⟩ := okSz_mul h
  rw [← hm] at b1 b2
  have hw1 : IntKind.i64.wrap (W * H) = m := by rw [← hm, IntKind.wrap_i64]; omega
  have hw2 : wrap64 (W * H) = m := by rw [← hm]; unfold wrap64; omega
  have hd : ((n : Int) == m) = true := by simpa using hn
  clear hn hm
  clear h
  go_enter Tryd.func12, Tryd.ntmps12
  go_upto_region 1 with fail
  have hR := Au.rows1 w (.cells #[.int .i64 W, .int .i64 H, .slice a n c] 24)
  have HUx := Ve.below_n1 w (.cells #[.int .i64 W, .int .i64 H, .slice a n c] 24)
  obtain ⟨y0, hy0⟩ : ∃ y0, w.alloc (.cells #[.int .i64 W, .int .i64 H, .slice a n c] 24) = y0 := ⟨_, rfl⟩
  rw [hy0] at hR HUx ⊢
  clear hy0
  have HU0 := Lib.hid HUx
  clear HUx
  have hr0_0 := hR
  clear hR
  have c0_0 := cell_of_row _ _ 0 _ _ _ hr0_0
  have c0_1 := cell_of_row _ _ 1 _ _ _ hr0_0
  have c0_2 := cell_of_row _ _ 2 _ _ _ hr0_0
  simp at c0_0 c0_1 c0_2
  go_wp2_with fail
  refine (drsize_any W H _).mono ?_
  rintro e ww ⟨rfl, rfl⟩
  rw [Hh.out]
  go_wp2
  go_ret
  exact ⟨rfl, HU0.out⟩

set_option maxHeartbeats 2000000 in
set_option maxRecDepth 100000 in
theorem drsheet_out (W H : Int) (a : Option Addr) (n c : Nat) (w : World) (m : Int) (hm : m = W * H) (h : okSz W H) (hn : ¬ (n : Int) = m) : Calls Tryd.prog 12 #[.agg #[.int .i64 W, .int .i64 H, .slice a n c]] w fun e' w' => e' = .returned (.bool false) ∧ Below w.heap.size w w' := by
  have Hh := Lib.hid (show decide (okSz W H) = true from decide_eq_true h)
  obtain ⟨b1, b2⟩ := okSz_mul h
  rw [← hm] at b1 b2
  have hw1 : IntKind.i64.wrap (W * H) = m := by rw [← hm, IntKind.wrap_i64]; omega
  have hw2 : wrap64 (W * H) = m := by rw [← hm]; unfold wrap64; omega
  have hd : ((n : Int) == m) = false := by simpa using hn
  clear hn hm
  clear h
  go_enter Tryd.func12, Tryd.ntmps12
  go_upto_region 1 with fail
  have hR := Au.rows1 w (.cells #[.int .i64 W, .int .i64 H, .slice a n c] 24)
  have HUx := Ve.below_n1 w (.cells #[.int .i64 W, .int .i64 H, .slice a n c] 24)
  obtain ⟨y0, hy0⟩ : ∃ y0, w.alloc (.cells #[.int .i64 W, .int .i64 H, .slice a n c] 24) = y0 := ⟨_, rfl⟩
  rw [hy0] at hR HUx ⊢
  clear hy0
  have HU0 := Lib.hid HUx
  clear HUx
  have hr0_0 := hR
  clear hR
  have c0_0 := cell_of_row _ _ 0 _ _ _ hr0_0
  have c0_1 := cell_of_row _ _ 1 _ _ _ hr0_0
  have c0_2 := cell_of_row _ _ 2 _ _ _ hr0_0
  simp at c0_0 c0_1 c0_2
  go_wp2_with fail
  refine (drsize_any W H _).mono ?_
  rintro e ww ⟨rfl, rfl⟩
  rw [Hh.out]
  go_wp2
  go_ret
  exact ⟨rfl, HU0.out⟩

theorem drsheet_any (W H : Int) (a : Option Addr) (n c : Nat) (w : World) : Calls Tryd.prog 12 #[.agg #[.int .i64 W, .int .i64 H, .slice a n c]] w fun e w' => e = .returned (.bool (decide (okSh W H n))) ∧ Below w.heap.size w w' := by
  by_cases h : okSz W H
  · by_cases hn : (n : Int) = W * H
    · rw [decide_eq_true (show okSh W H n from ⟨h, hn⟩)]; exact drsheet_in W H a n c w _ rfl h hn
    · rw [decide_eq_false (show ¬ okSh W H n from fun k => hn k.2)]; exact drsheet_out W H a n c w _ rfl h hn
  · rw [decide_eq_false (show ¬ okSh W H n from fun k => h k.1)]; exact drsheet_no W H a n c w h

set_option maxHeartbeats 4000000 in
set_option maxRecDepth 100000 in
theorem dright_0 (W H : Int) (al ad an ab ax af : Option Addr) (cl cd cn cb cx cf nl nd nn nb ns nf : Nat) (S F : Nat → Int) (w : World) (hs : Rw 1 w ax ns S) (hf : Rw 1 w af nf F) (h0 : ¬ okSh W H nl) : Calls Tryd.prog 13 #[.agg #[.int .i64 W, .int .i64 H, .slice al nl cl, .slice ad nd cd, .slice an nn cn, .slice ab nb cb, .slice ax ns cx, .slice af nf cf]] w fun e' w' => e' = .returned (.bool false) ∧ Below w.heap.size w w' := by
  have HS := Lib.hid hs
  have HF := Lib.hid hf
  clear hs hf
  have Hh := Lib.hid (show decide (okSh W H nl) = false from decide_eq_false h0)
  clear h0
  go_enter Tryd.func13, Tryd.ntmps13
  go_upto_region 1 with fail
  have hR := Au.rows1 w (.cells #[.int .i64 W, .int .i64 H, .slice al nl cl, .slice ad nd cd, .slice an nn cn, .slice ab nb cb, .slice ax ns cx, .slice af nf cf] 29)
  have HUx := Ve.below_n1 w (.cells #[.int .i64 W, .int .i64 H, .slice al nl cl, .slice ad nd cd, .slice an nn cn, .slice ab nb cb, .slice ax ns cx, .slice af nf cf] 29)
  obtain ⟨y0, hy0⟩ : ∃ y0, w.alloc (.cells #[.int .i64 W, .int .i64 H, .slice al nl cl, .slice ad nd cd, .slice an nn cn, .slice ab nb cb, .slice ax ns cx, .slice af nf cf] 29) = y0 := ⟨_, rfl⟩
  rw [hy0] at hR HUx ⊢
  clear hy0
  have HU0 := Lib.hid HUx
  clear HUx
  have hr0_0 := hR
  clear hR
  have c0_0 := cell_of_row _ _ 0 _ _ _ hr0_0
  have c0_1 := cell_of_row _ _ 1 _ _ _ hr0_0
  have c0_2 := cell_of_row _ _ 2 _ _ _ hr0_0
  have c0_3 := cell_of_row _ _ 3 _ _ _ hr0_0
  have c0_4 := cell_of_row _ _ 4 _ _ _ hr0_0
  have c0_5 := cell_of_row _ _ 5 _ _ _ hr0_0
  have c0_6 := cell_of_row _ _ 6 _ _ _ hr0_0
  have c0_7 := cell_of_row _ _ 7 _ _ _ hr0_0
  simp at c0_0 c0_1 c0_2 c0_3 c0_4 c0_5 c0_6 c0_7
  go_wp2_with fail
  refine (drsheet_any W H al nl cl _).mono ?_
  rintro e y1 ⟨rfl, hb1⟩
  clear c0_0 c0_1 c0_2 c0_3 c0_4 c0_5 c0_6 c0_7
  have hr1_0 := (hb1.block _ (lt_heap hr0_0)).trans hr0_0
  have HU1 := Lib.hid (HU0.out.trans (hb1.mono HU0.out.size))
  clear hr0_0 HU0
  rw [Hh.out]
  have c0_0 := cell_of_row _ _ 0 _ _ _ hr1_0
  have c0_1 := cell_of_row _ _ 1 _ _ _ hr1_0
  have c0_2 := cell_of_row _ _ 2 _ _ _ hr1_0
  have c0_3 := cell_of_row _ _ 3 _ _ _ hr1_0
  have c0_4 := cell_of_row _ _ 4 _ _ _ hr1_0
  have c0_5 := cell_of_row _ _ 5 _ _ _ hr1_0
  have c0_6 := cell_of_row _ _ 6 _ _ _ hr1_0
  have c0_7 := cell_of_row _ _ 7 _ _ _ hr1_0
  simp at c0_0 c0_1 c0_2 c0_3 c0_4 c0_5 c0_6 c0_7
  go_wp2
  go_ret
  exact ⟨rfl, HU1.out⟩

set_option maxHeartbeats 4000000 in
set_option maxRecDepth 100000 in
theorem dright_1 (W H : Int) (al ad an ab ax af : Option Addr) (cl cd cn cb cx cf nl nd nn nb ns nf : Nat) (S F : Nat → Int) (w : World) (hs : Rw 1 w ax ns S) (hf : Rw 1 w af nf F) (m : Int) (hm : m = W * H) (h0 : okSh W H nl) (h1 : ¬ (nd : Int) = m) : Calls Tryd.prog 13 #[.agg #[.int .i64 W, .int .i64 H, .slice al nl cl, .slice ad nd cd, .slice an nn cn, .slice ab nb cb, .slice ax ns cx, .slice af nf cf]] w fun e' w' => e' = .returned (.bool false) ∧ Below w.heap.size w w' := by
  have HS := Lib.hid hs
  have HF := Lib.hid hf
  clear hs hf
  have Hh := Lib.hid (show decide (okSh W H nl) = true from decide_eq_true h0)
  obtain ⟨b1, b2⟩ := okSz_mul h0.1
  rw [← hm] at b1 b2
  have hw1 : IntKind.i64.wrap (W * H) = m := by rw [← hm, IntKind.wrap_i64]; omega
  have hw2 : wrap64 (W * H) = m := by rw [← hm]; unfold wrap64; omega
  have hd1 : ((nd : Int) != m) = true := by simpa using h1
  clear hm h1
  clear h0
  go_enter Tryd.func13, Tryd.ntmps13
  go_upto_region 1 with fail
  have hR := Au.rows1 w (.cells #[.int .i64 W, .int .i64 H, .slice al nl cl, .slice ad nd cd, .slice an nn cn, .slice ab nb cb, .slice ax ns cx, .slice af nf cf] 29)
  have HUx := Ve.below_n1 w (.cells #[.int .i64 W, .int .i64 H, .slice al nl cl, .slice ad nd cd, .slice an nn cn, .slice ab nb cb, .slice ax ns cx, .slice af nf cf] 29)
  obtain ⟨y0, hy0⟩ : ∃ y0, w.alloc (.cells #[.int .i64 W, .int .i64 H, .slice al nl cl, .slice ad nd cd, .slice an nn cn, .slice ab nb cb, .slice ax ns cx, .slice af nf cf] 29) = y0 := ⟨_, rfl⟩
  rw [hy0] at hR HUx ⊢
  clear hy0
  have HU0 := Lib.hid HUx
  clear HUx
  have hr0_0 := hR
  clear hR
  have c0_0 := cell_of_row _ _ 0 _ _ _ hr0_0
  have c0_1 := cell_of_row _ _ 1 _ _ _ hr0_0
  have c0_2 := cell_of_row _ _ 2 _ _ _ hr0_0
  have c0_3 := cell_of_row _ _ 3 _ _ _ hr0_0
  have c0_4 := cell_of_row _ _ 4 _ _ _ hr0_0
  have c0_5 := cell_of_row _ _ 5 _ _ _ hr0_0
  have c0_6 := cell_of_row _ _ 6 _ _ _ hr0_0
  have c0_7 := cell_of_row _ _ 7 _ _ _ hr0_0
  simp at c0_0 c0_1 c0_2 c0_3 c0_4 c0_5 c0_6 c0_7
  go_wp2_with fail
  refine (drsheet_any W H al nl cl _).mono ?_
  rintro e y1 ⟨rfl, hb1⟩
  clear c0_0 c0_1 c0_2 c0_3 c0_4 c0_5 c0_6 c0_7
  have hr1_0 := (hb1.block _ (lt_heap hr0_0)).trans hr0_0
  have HU1 := Lib.hid (HU0.out.trans (hb1.mono HU0.out.size))
  clear hr0_0 HU0
  rw [Hh.out]
  have c0_0 := cell_of_row _ _ 0 _ _ _ hr1_0
  have c0_1 := cell_of_row _ _ 1 _ _ _ hr1_0
  have c0_2 := cell_of_row _ _ 2 _ _ _ hr1_0
  have c0_3 := cell_of_row _ _ 3 _ _ _ hr1_0
  have c0_4 := cell_of_row _ _ 4 _ _ _ hr1_0
  have c0_5 := cell_of_row _ _ 5 _ _ _ hr1_0
  have c0_6 := cell_of_row _ _ 6 _ _ _ hr1_0
  have c0_7 := cell_of_row _ _ 7 _ _ _ hr1_0
  simp at c0_0 c0_1 c0_2 c0_3 c0_4 c0_5 c0_6 c0_7
  go_wp2
  go_ret
  exact ⟨rfl, HU1.out⟩

set_option maxHeartbeats 4000000 in
set_option maxRecDepth 100000 in
theorem dright_2 (W H : Int) (al ad an ab ax af : Option Addr) (cl cd cn cb cx cf nl nd nn nb ns nf : Nat) (S F : Nat → Int) (w : World) (hs : Rw 1 w ax ns S) (hf : Rw 1 w af nf F) (m : Int) (hm : m = W * H) (h0 : okSh W H nl) (h1 : (nd : Int) = m) (h2 : ¬ (nn : Int) = m) : Calls Tryd.prog 13 #[.agg #[.int .i64 W, .int .i64 H, .slice al nl cl, .slice ad nd cd, .slice an nn cn, .slice ab nb cb, .slice ax ns cx, .slice af nf cf]] w fun e' w' => e' = .returned (.bool false) ∧ Below w.heap.size w w' := by
  have HS := Lib.hid hs
  have HF := Lib.hid hf
  clear hs hf
  have Hh := Lib.hid (show decide (okSh W H nl) = true from decide_eq_true h0)
  obtain ⟨b1, b2⟩ := okSz_mul h0.1
  rw [← hm] at b1 b2
  have hw1 : IntKind.i64.wrap (W * H) = m := by rw [← hm, IntKind.wrap_i64]; omega
  have hw2 : wrap64 (W * H) = m := by rw [← hm]; unfold wrap64; omega
  have hd1 : ((nd : Int) != m) = false := by simpa using h1
  have hd2 : ((nn : Int) != m) = true := by simpa using h2
  clear hm h1 h2
  clear h0
  go_enter Tryd.func13, Tryd.ntmps13
  go_upto_region 1 with fail
  have hR := Au.rows1 w (.cells #[.int .i64 W, .int .i64 H, .slice al nl cl, .slice ad nd cd, .slice an nn cn, .slice ab nb cb, .slice ax ns cx, .slice af nf cf] 29)
  have HUx := Ve.below_n1 w (.cells #[.int .i64 W, .int .i64 H, .slice al nl cl, .slice ad nd cd, .slice an nn cn, .slice ab nb cb, .slice ax ns cx, .slice af nf cf] 29)
  obtain ⟨y0, hy0⟩ : ∃ y0, w.alloc (.cells #[.int .i64 W, .int .i64 H, .slice al nl cl, .slice ad nd cd, .slice an nn cn, .slice ab nb cb, .slice ax ns cx, .slice af nf cf] 29) = y0 := ⟨_, rfl⟩
  rw [hy0] at hR HUx ⊢
  clear hy0
  have HU0 := Lib.hid HUx
  clear HUx
  have hr0_0 := hR
  clear hR
  have c0_0 := cell_of_row _ _ 0 _ _ _ hr0_0
  have c0_1 := cell_of_row _ _ 1 _ _ _ hr0_0
  have c0_2 := cell_of_row _ _ 2 _ _ _ hr0_0
  have c0_3 := cell_of_row _ _ 3 _ _ _ hr0_0
  have c0_4 := cell_of_row _ _ 4 _ _ _ hr0_0
  have c0_5 := cell_of_row _ _ 5 _ _ _ hr0_0
  have c0_6 := cell_of_row _ _ 6 _ _ _ hr0_0
  have c0_7 := cell_of_row _ _ 7 _ _ _ hr0_0
  simp at c0_0 c0_1 c0_2 c0_3 c0_4 c0_5 c0_6 c0_7
  go_wp2_with fail
  refine (drsheet_any W H al nl cl _).mono ?_
  rintro e y1 ⟨rfl, hb1⟩
  clear c0_0 c0_1 c0_2 c0_3 c0_4 c0_5 c0_6 c0_7
  have hr1_0 := (hb1.block _ (lt_heap hr0_0)).trans hr0_0
  have HU1 := Lib.hid (HU0.out.trans (hb1.mono HU0.out.size))
  clear hr0_0 HU0
  rw [Hh.out]
  have c0_0 := cell_of_row _ _ 0 _ _ _ hr1_0
  have c0_1 := cell_of_row _ _ 1 _ _ _ hr1_0
  have c0_2 := cell_of_row _ _ 2 _ _ _ hr1_0
  have c0_3 := cell_of_row _ _ 3 _ _ _ hr1_0
  have c0_4 := cell_of_row _ _ 4 _ _ _ hr1_0
  have c0_5 := cell_of_row _ _ 5 _ _ _ hr1_0
  have c0_6 := cell_of_row _ _ 6 _ _ _ hr1_0
  have c0_7 := cell_of_row _ _ 7 _ _ _ hr1_0
  simp at c0_0 c0_1 c0_2 c0_3 c0_4 c0_5 c0_6 c0_7
  go_wp2
  go_ret
  exact ⟨rfl, HU1.out⟩

set_option maxHeartbeats 4000000 in
set_option maxRecDepth 100000 in
theorem dright_3 (W H : Int) (al ad an ab ax af : Option Addr) (cl cd cn cb cx cf nl nd nn nb ns nf : Nat) (S F : Nat → Int) (w : World) (hs : Rw 1 w ax ns S) (hf : Rw 1 w af nf F) (m : Int) (hm : m = W * H) (h0 : okSh W H nl) (h1 : (nd : Int) = m) (h2 : (nn : Int) = m) (h3 : ¬ (nb : Int) = m) : Calls Tryd.prog 13 #[.agg #[.int .i64 W, .int .i64 H, .slice al nl cl, .slice ad nd cd, .slice an nn cn, .slice ab nb cb, .slice ax ns cx, .slice af nf cf]] w fun e' w' => e' = .returned (.bool false) ∧ Below w.heap.size w w' := by
  have HS := Lib.hid hs
  have HF := Lib.hid hf
  clear hs hf
  have Hh := Lib.hid (show decide (okSh W H nl) = true from decide_eq_true h0)
  obtain ⟨b1, b2⟩ := okSz_mul h0.1
  rw [← hm] at b1 b2
  have hw1 : IntKind.i64.wrap (W * H) = m := by rw [← hm, IntKind.wrap_i64]; omega
  have hw2 : wrap64 (W * H) = m := by rw [← hm]; unfold wrap64; omega
  have hd1 : ((nd : Int) != m) = false := by simpa using h1
  have hd2 : ((nn : Int) != m) = false := by simpa using h2
  have hd3 : ((nb : Int) != m) = true := by simpa using h3
  clear hm h1 h2 h3
  clear h0
  go_enter Tryd.func13, Tryd.ntmps13
  go_upto_region 1 with fail
  have hR := Au.rows1 w (.cells #[.int .i64 W, .int .i64 H, .slice al nl cl, .slice ad nd cd, .slice an nn cn, .slice ab nb cb, .slice ax ns cx, .slice af nf cf] 29)
  have HUx := Ve.below_n1 w (.cells #[.int .i64 W, .int .i64 H, .slice al nl cl, .slice ad nd cd, .slice an nn cn, .slice ab nb cb, .slice ax ns cx, .slice af nf cf] 29)
  obtain ⟨y0, hy0⟩ : ∃ y0, w.alloc (.cells #[.int .i64 W, .int .i64 H, .slice al nl cl, .slice ad nd cd, .slice an nn cn, .slice ab nb cb, .slice ax ns cx, .slice af nf cf] 29) = y0 := ⟨_, rfl⟩
  rw [hy0] at hR HUx ⊢
  clear hy0
  have HU0 := Lib.hid HUx
  clear HUx
  have hr0_0 := hR
  clear hR
  have c0_0 := cell_of_row _ _ 0 _ _ _ hr0_0
  have c0_1 := cell_of_row _ _ 1 _ _ _ hr0_0
  have c0_2 := cell_of_row _ _ 2 _ _ _ hr0_0
  have c0_3 := cell_of_row _ _ 3 _ _ _ hr0_0
  have c0_4 := cell_of_row _ _ 4 _ _ _ hr0_0
  have c0_5 := cell_of_row _ _ 5 _ _ _ hr0_0
  have c0_6 := cell_of_row _ _ 6 _ _ _ hr0_0
  have c0_7 := cell_of_row _ _ 7 _ _ _ hr0_0
  simp at c0_0 c0_1 c0_2 c0_3 c0_4 c0_5 c0_6 c0_7
  go_wp2_with fail
  refine (drsheet_any W H al nl cl _).mono ?_
  rintro e y1 ⟨rfl, hb1⟩
  clear c0_0 c0_1 c0_2 c0_3 c0_4 c0_5 c0_6 c0_7
  have hr1_0 := (hb1.block _ (lt_heap hr0_0)).trans hr0_0
  have HU1 := Lib.hid (HU0.out.trans (hb1.mono HU0.out.size))
  clear hr0_0 HU0
  rw [Hh.out]
  have c0_0 := cell_of_row _ _ 0 _ _ _ hr1_0
  have c0_1 := cell_of_row _ _ 1 _ _ _ hr1_0
  have c0_2 := cell_of_row _ _ 2 _ _ _ hr1_0
  have c0_3 := cell_of_row _ _ 3 _ _ _ hr1_0
  have c0_4 := cell_of_row _ _ 4 _ _ _ hr1_0
  have c0_5 := cell_of_row _ _ 5 _ _ _ hr1_0
  have c0_6 := cell_of_row _ _ 6 _ _ _ hr1_0
  have c0_7 := cell_of_row _ _ 7 _ _ _ hr1_0
  simp at c0_0 c0_1 c0_2 c0_3 c0_4 c0_5 c0_6 c0_7
  go_wp2
  go_ret
  exact ⟨rfl, HU1.out⟩

set_option maxHeartbeats 4000000 in
set_option maxRecDepth 100000 in
theorem dright_4 (W H : Int) (al ad an ab ax af : Option Addr) (cl cd cn cb cx cf nl nd nn nb ns nf : Nat) (S F : Nat → Int) (w : World) (hs : Rw 1 w ax ns S) (hf : Rw 1 w af nf F) (m : Int) (hm : m = W * H) (h0 : okSh W H nl) (h1 : (nd : Int) = m) (h2 : (nn : Int) = m) (h3 : (nb : Int) = m) (h4 : ¬ (ns : Int) = m) : Calls Tryd.prog 13 #[.agg #[.int .i64 W, .int .i64 H, .slice al nl cl, .slice ad nd cd, .slice an nn cn, .slice ab nb cb, .slice ax ns cx, .slice af nf cf]] w fun e' w' => e' = .returned (.bool false) ∧ Below w.heap.size w w' := by
  have HS := Lib.hid hs
  have HF := Lib.hid hf
  clear hs hf
  have Hh := Lib.hid (show decide (okSh W H nl) = true from decide_eq_true h0)
  obtain ⟨b1, b2⟩ := okSz_mul h0.1
  rw [← hm] at b1 b2
  have hw1 : IntKind.i64.wrap (W * H) = m := by rw [← hm, IntKind.wrap_i64]; omega
  have hw2 : wrap64 (W * H) = m := by rw [← hm]; unfold wrap64; omega
  have hd1 : ((nd : Int) != m) = false := by simpa using h1
  have hd2 : ((nn : Int) != m) = false := by simpa using h2
  have hd3 : ((nb : Int) != m) = false := by simpa using h3
  have hd4 : ((ns : Int) != m) = true := by simpa using h4
  clear hm h1 h2 h3 h4
  clear h0
  go_enter Tryd.func13, Tryd.ntmps13
  go_upto_region 1 with fail
  have hR := Au.rows1 w (.cells #[.int .i64 W, .int .i64 H, .slice al nl cl, .slice ad nd cd, .slice an nn cn, .slice ab nb cb, .slice ax ns cx, .slice af nf cf] 29)
  have HUx := Ve.below_n1 w (.cells #[.int .i64 W, .int .i64 H, .slice al nl cl, .slice ad nd cd, .slice an nn cn, .slice ab nb cb, .slice ax ns cx, .slice af nf cf] 29)
  obtain ⟨y0, hy0⟩ : ∃ y0, w.alloc (.cells #[.int .i64 W, .int .i64 H, .slice al nl cl, .slice ad nd cd, .slice an nn cn, .slice ab nb cb, .slice ax ns cx, .slice af nf cf] 29) = y0 := ⟨_, rfl⟩
  rw [hy0] at hR HUx ⊢
  clear hy0
  have HU0 := Lib.hid HUx
  clear HUx
  have hr0_0 := hR
  clear hR
  have c0_0 := cell_of_row _ _ 0 _ _ _ hr0_0
  have c0_1 := cell_of_row _ _ 1 _ _ _ hr0_0
  have c0_2 := cell_of_row _ _ 2 _ _ _ hr0_0
  have c0_3 := cell_of_row _ _ 3 _ _ _ hr0_0
  have c0_4 := cell_of_row _ _ 4 _ _ _ hr0_0
  have c0_5 := cell_of_row _ _ 5 _ _ _ hr0_0
  have c0_6 := cell_of_row _ _ 6 _ _ _ hr0_0
  have c0_7 := cell_of_row _ _ 7 _ _ _ hr0_0
  simp at c0_0 c0_1 c0_2 c0_3 c0_4 c0_5 c0_6 c0_7
  go_wp2_with fail
  refine (drsheet_any W H al nl cl _).mono ?_
  rintro e y1 ⟨rfl, hb1⟩
  clear c0_0 c0_1 c0_2 c0_3 c0_4 c0_5 c0_6 c0_7
  have hr1_0 := (hb1.block _ (lt_heap hr0_0)).trans hr0_0
  have HU1 := Lib.hid (HU0.out.trans (hb1.mono HU0.out.size))
  clear hr0_0 HU0
  rw [Hh.out]
  have c0_0 := cell_of_row _ _ 0 _ _ _ hr1_0
  have c0_1 := cell_of_row _ _ 1 _ _ _ hr1_0
  have c0_2 := cell_of_row _ _ 2 _ _ _ hr1_0
  have c0_3 := cell_of_row _ _ 3 _ _ _ hr1_0
  have c0_4 := cell_of_row _ _ 4 _ _ _ hr1_0
  have c0_5 := cell_of_row _ _ 5 _ _ _ hr1_0
  have c0_6 := cell_of_row _ _ 6 _ _ _ hr1_0
  have c0_7 := cell_of_row _ _ 7 _ _ _ hr1_0
  simp at c0_0 c0_1 c0_2 c0_3 c0_4 c0_5 c0_6 c0_7
  go_wp2
  go_ret
  exact ⟨rfl, HU1.out⟩

set_option maxHeartbeats 4000000 in
set_option maxRecDepth 100000 in
theorem dright_5 (W H : Int) (al ad an ab ax af : Option Addr) (cl cd cn cb cx cf nl nd nn nb ns nf : Nat) (S F : Nat → Int) (w : World) (hs : Rw 1 w ax ns S) (hf : Rw 1 w af nf F) (m : Int) (hm : m = W * H) (h0 : okSh W H nl) (h1 : (nd : Int) = m) (h2 : (nn : Int) = m) (h3 : (nb : Int) = m) (h4 : (ns : Int) = m) (h5 : ¬ (nf : Int) = m) : Calls Tryd.prog 13 #[.agg #[.int .i64 W, .int .i64 H, .slice al nl cl, .slice ad nd cd, .slice an nn cn, .slice ab nb cb, .slice ax ns cx, .slice af nf cf]] w fun e' w' => e' = .returned (.bool false) ∧ Below w.heap.size w w' := by
  have HS := Lib.hid hs
  have HF := Lib.hid hf
  clear hs hf
  have Hh := Lib.hid (show decide (okSh W H nl) = true from decide_eq_true h0)
  obtain ⟨b1, b2⟩ := okSz_mul h0.1
  rw [← hm] at b1 b2
  have hw1 : IntKind.i64.wrap (W * H) = m := by rw [← hm, IntKind.wrap_i64]; omega
  have hw2 : wrap64 (W * H) = m := by rw [← hm]; unfold wrap64; omega
  have hd1 : ((nd : Int) != m) = false := by simpa using h1
  have hd2 : ((nn : Int) != m) = false := by simpa using h2
  have hd3 : ((nb : Int) != m) = false := by simpa using h3
  have hd4 : ((ns : Int) != m) = false := by simpa using h4
  have hd5 : ((nf : Int) != m) = true := by simpa using h5
  clear hm h1 h2 h3 h4 h5
  clear h0
  go_enter Tryd.func13, Tryd.ntmps13
  go_upto_region 1 with fail
  have hR := Au.rows1 w (.cells #[.int .i64 W, .int .i64 H, .slice al nl cl, .slice ad nd cd, .slice an nn cn, .slice ab nb cb, .slice ax ns cx, .slice af nf cf] 29)
  have HUx := Ve.below_n1 w (.cells #[.int .i64 W, .int .i64 H, .slice al nl cl, .slice ad nd cd, .slice an nn cn, .slice ab nb cb, .slice ax ns cx, .slice af nf cf] 29)
  obtain ⟨y0, hy0⟩ : ∃ y0, w.alloc (.cells #[.int .i64 W, .int .i64 H, .slice al nl cl, .slice ad nd cd, .slice an nn cn, .slice ab nb cb, .slice ax ns cx, .slice af nf cf] 29) = y0 := ⟨_, rfl⟩
  rw [hy0] at hR HUx ⊢
  clear hy0
  have HU0 := Lib.hid HUx
  clear HUx
  have hr0_0 := hR
  clear hR
  have c0_0 := cell_of_row _ _ 0 _ _ _ hr0_0
  have c0_1 := cell_of_row _ _ 1 _ _ _ hr0_0
  have c0_2 := cell_of_row _ _ 2 _ _ _ hr0_0
  have c0_3 := cell_of_row _ _ 3 _ _ _ hr0_0
  have c0_4 := cell_of_row _ _ 4 _ _ _ hr0_0
  have c0_5 := cell_of_row _ _ 5 _ _ _ hr0_0
  have c0_6 := cell_of_row _ _ 6 _ _ _ hr0_0
  have c0_7 := cell_of_row _ _ 7 _ _ _ hr0_0
  simp at c0_0 c0_1 c0_2 c0_3 c0_4 c0_5 c0_6 c0_7
  go_wp2_with fail
  refine (drsheet_any W H al nl cl _).mono ?_
  rintro e y1 ⟨rfl, hb1⟩
  clear c0_0 c0_1 c0_2 c0_3 c0_4 c0_5 c0_6 c0_7
  have hr1_0 := (hb1.block _ (lt_heap hr0_0)).trans hr0_0
  have HU1 := Lib.hid (HU0.out.trans (hb1.mono HU0.out.size))
  clear hr0_0 HU0
  rw [Hh.out]
  have c0_0 := cell_of_row _ _ 0 _ _ _ hr1_0
  have c0_1 := cell_of_row _ _ 1 _ _ _ hr1_0
  have c0_2 := cell_of_row _ _ 2 _ _ _ hr1_0
  have c0_3 := cell_of_row _ _ 3 _ _ _ hr1_0
  have c0_4 := cell_of_row _ _ 4 _ _ _ hr1_0
  have c0_5 := cell_of_row _ _ 5 _ _ _ hr1_0
  have c0_6 := cell_of_row _ _ 6 _ _ _ hr1_0
  have c0_7 := cell_of_row _ _ 7 _ _ _ hr1_0
  simp at c0_0 c0_1 c0_2 c0_3 c0_4 c0_5 c0_6 c0_7
  go_wp2
  go_ret
  exact ⟨rfl, HU1.out⟩

set_option maxHeartbeats 4000000 in
set_option maxRecDepth 100000 in
theorem dright_6 (W H : Int) (al ad an ab ax af : Option Addr) (cl cd cn cb cx cf nl nd nn nb ns nf : Nat) (S F : Nat → Int) (w : World) (hs : Rw 1 w ax ns S) (hf : Rw 1 w af nf F) (m : Int) (hm : m = W * H) (h0 : okSh W H nl) (h1 : (nd : Int) = m) (h2 : (nn : Int) = m) (h3 : (nb : Int) = m) (h4 : (ns : Int) = m) (h5 : (nf : Int) = m) (r : Bool) (hr : r = decide (lie S ns (-1) 127 ∧ lie F nf (-1) (m - 1))) : Calls Tryd.prog 13 #[.agg #[.int .i64 W, .int .i64 H, .slice al nl cl, .slice ad nd cd, .slice an nn cn, .slice ab nb cb, .slice ax ns cx, .slice af nf cf]] w fun e' w' => e' = .returned (.bool r) ∧ Below w.heap.size w w' := by
  have HS := Lib.hid hs
  have HF := Lib.hid hf
  clear hs hf
  have Hh := Lib.hid (show decide (okSh W H nl) = true from decide_eq_true h0)
  obtain ⟨b1, b2⟩ := okSz_mul h0.1
  rw [← hm] at b1 b2
  have hw1 : IntKind.i64.wrap (W * H) = m := by rw [← hm, IntKind.wrap_i64]; omega
  have hw2 : wrap64 (W * H) = m := by rw [← hm]; unfold wrap64; omega
  have hd1 : ((nd : Int) != m) = false := by simpa using h1
  have hd2 : ((nn : Int) != m) = false := by simpa using h2
  have hd3 : ((nb : Int) != m) = false := by simpa using h3
  have hd4 : ((ns : Int) != m) = false := by simpa using h4
  have hd5 : ((nf : Int) != m) = false := by simpa using h5
  have e4 : m = (ns : Int) := h4.symm
  have e5 : (ns : Int) = nf := by omega
  have HR := Lib.hid hr
  clear hr
  clear hm h1 h2 h3 h4 h5
  clear h0
  go_enter Tryd.func13, Tryd.ntmps13
  go_upto_region 1 with fail
  have hR := Au.rows1 w (.cells #[.int .i64 W, .int .i64 H, .slice al nl cl, .slice ad nd cd, .slice an nn cn, .slice ab nb cb, .slice ax ns cx, .slice af nf cf] 29)
  have HUx := Ve.below_n1 w (.cells #[.int .i64 W, .int .i64 H, .slice al nl cl, .slice ad nd cd, .slice an nn cn, .slice ab nb cb, .slice ax ns cx, .slice af nf cf] 29)
  obtain ⟨y0, hy0⟩ : ∃ y0, w.alloc (.cells #[.int .i64 W, .int .i64 H, .slice al nl cl, .slice ad nd cd, .slice an nn cn, .slice ab nb cb, .slice ax ns cx, .slice af nf cf] 29) = y0 := ⟨_, rfl⟩
  rw [hy0] at hR HUx ⊢
  clear hy0
  have HU0 := Lib.hid HUx
  clear HUx
  have hr0_0 := hR
  clear hR
  have c0_0 := cell_of_row _ _ 0 _ _ _ hr0_0
  have c0_1 := cell_of_row _ _ 1 _ _ _ hr0_0
  have c0_2 := cell_of_row _ _ 2 _ _ _ hr0_0
  have c0_3 := cell_of_row _ _ 3 _ _ _ hr0_0
  have c0_4 := cell_of_row _ _ 4 _ _ _ hr0_0
  have c0_5 := cell_of_row _ _ 5 _ _ _ hr0_0
  have c0_6 := cell_of_row _ _ 6 _ _ _ hr0_0
  have c0_7 := cell_of_row _ _ 7 _ _ _ hr0_0
  simp at c0_0 c0_1 c0_2 c0_3 c0_4 c0_5 c0_6 c0_7
  go_wp2_with fail
  refine (drsheet_any W H al nl cl _).mono ?_
  rintro e y1 ⟨rfl, hb1⟩
  clear c0_0 c0_1 c0_2 c0_3 c0_4 c0_5 c0_6 c0_7
  have hr1_0 := (hb1.block _ (lt_heap hr0_0)).trans hr0_0
  have HU1 := Lib.hid (HU0.out.trans (hb1.mono HU0.out.size))
  clear hr0_0 HU0
  rw [Hh.out]
  have c0_0 := cell_of_row _ _ 0 _ _ _ hr1_0
  have c0_1 := cell_of_row _ _ 1 _ _ _ hr1_0
  have c0_2 := cell_of_row _ _ 2 _ _ _ hr1_0
  have c0_3 := cell_of_row _ _ 3 _ _ _ hr1_0
  have c0_4 := cell_of_row _ _ 4 _ _ _ hr1_0
  have c0_5 := cell_of_row _ _ 5 _ _ _ hr1_0
  have c0_6 := cell_of_row _ _ 6 _ _ _ hr1_0
  have c0_7 := cell_of_row _ _ 7 _ _ _ hr1_0
  simp at c0_0 c0_1 c0_2 c0_3 c0_4 c0_5 c0_6 c0_7
  clear c0_0 c0_1 c0_2 c0_3 c0_4 c0_5 c0_6 c0_7
  have E4 := Lib.hid e4
  have E5 := Lib.hid e5
  clear e4 e5
  have c0_0 := cell_of_row _ _ 0 _ _ _ hr1_0
  have c0_1 := cell_of_row _ _ 1 _ _ _ hr1_0
  have c0_2 := cell_of_row _ _ 2 _ _ _ hr1_0
  have c0_3 := cell_of_row _ _ 3 _ _ _ hr1_0
  have c0_4 := cell_of_row _ _ 4 _ _ _ hr1_0
  have c0_5 := cell_of_row _ _ 5 _ _ _ hr1_0
  have c0_6 := cell_of_row _ _ 6 _ _ _ hr1_0
  have c0_7 := cell_of_row _ _ 7 _ _ _ hr1_0
  simp at c0_0 c0_1 c0_2 c0_3 c0_4 c0_5 c0_6 c0_7
  go_wp2_with fail
  clear c0_0 c0_1 c0_2 c0_3 c0_4 c0_5 c0_6 c0_7
  go_loopw [4] (fun i wr => ∃ k : Nat, k ≤ ns ∧ i = .int .i64 k ∧ Hid (lie S k (-1) 127 ∧ lie F k (-1) (m - 1)) ∧ wr = y1) (fun i _ => ns - (intOf i).toNat)
  case atStart => exact ⟨0, by omega, rfl, Lib.hid ⟨fun j hj => by omega, fun j hj => by omega⟩, rfl⟩
  case round =>
    obtain ⟨k, hk, rfl, HI, rfl⟩ := hrel
    have e4 := E4.out
    have e5 := E5.out
    by_cases hlt : k < ns
    · have hlt' : (k : Int) < m := by omega
      have hltn : (k : Int) < nf := by omega
      have hlts : (k : Int) < ns := by omega
      obtain ⟨b1_, o1_, ha1, q1⟩ := (HS.out.on HU1.out).at1 hlt
      obtain ⟨b2_, o2_, ha2, q2⟩ := (HF.out.on HU1.out).at1 (k := k) (by omega)
      obtain ⟨u, hu⟩ : ∃ u, u = S k := ⟨_, rfl⟩
      obtain ⟨v, hv⟩ : ∃ v, v = F k := ⟨_, rfl⟩
      rw [← hu] at q1
      rw [← hv] at q2
      have HUV := Lib.hid (And.intro hu hv)
      clear hu hv e4 e5
      subst ha1 ha2
      have c0_0 := cell_of_row _ _ 0 _ _ _ hr1_0
      have c0_1 := cell_of_row _ _ 1 _ _ _ hr1_0
      have c0_2 := cell_of_row _ _ 2 _ _ _ hr1_0
      have c0_3 := cell_of_row _ _ 3 _ _ _ hr1_0
      have c0_4 := cell_of_row _ _ 4 _ _ _ hr1_0
      have c0_5 := cell_of_row _ _ 5 _ _ _ hr1_0
      have c0_6 := cell_of_row _ _ 6 _ _ _ hr1_0
      have c0_7 := cell_of_row _ _ 7 _ _ _ hr1_0
      simp at c0_0 c0_1 c0_2 c0_3 c0_4 c0_5 c0_6 c0_7
      by_cases g1 : u < -1
      · skip
        have HG := Lib.hid g1
        have HN := Lib.hid (show r = false by rw [HR.out]; exact decide_eq_false fun k' => by have := k'.1 k hlt; have := HUV.out; have := HG.out; omega)
        go_wp2
        go_ret
        exact ⟨by rw [HN.out]; rfl, HU1.out⟩
      · skip
        by_cases g2 : 128 ≤ u
        · skip
          have HG := Lib.hid g2
          have HN := Lib.hid (show r = false by rw [HR.out]; exact decide_eq_false fun k' => by have := k'.1 k hlt; have := HUV.out; have := HG.out; omega)
          go_wp2
          go_ret
          exact ⟨by rw [HN.out]; rfl, HU1.out⟩
        · skip
          by_cases g3 : v < -1
          · skip
            have HG := Lib.hid g3
            have HN := Lib.hid (show r = false by rw [HR.out]; exact decide_eq_false fun k' => by have := k'.2 k (by have := E5.out; omega); have := HUV.out; have := HG.out; omega)
            go_wp2
            go_ret
            exact ⟨by rw [HN.out]; rfl, HU1.out⟩
          · skip
            by_cases g4 : m ≤ v
            · skip
              have HG := Lib.hid g4
              have HN := Lib.hid (show r = false by rw [HR.out]; exact decide_eq_false fun k' => by have := k'.2 k (by have := E5.out; omega); have := HUV.out; have := HG.out; omega)
              go_wp2
              go_ret
              exact ⟨by rw [HN.out]; rfl, HU1.out⟩
            · skip
              have HI2 := Lib.hid (show lie S (k + 1) (-1) 127 ∧ lie F (k + 1) (-1) (m - 1) from ⟨lie_step HI.out.1 (by have := HUV.out; omega), lie_step HI.out.2 (by have := HUV.out; omega)⟩)
              go_wp2_with fail
              go_roundw
              case rel => exact ⟨k + 1, by omega, by go_num, HI2, trivial⟩
              case measure => simp [intOf]; omega
    · have hge : ¬ (k : Int) < m := by omega
      have HK := Lib.hid (show k = ns by omega)
      clear hlt e4 e5
      have HN := Lib.hid (show r = true by rw [HR.out]; exact decide_eq_true ⟨fun j hj => HI.out.1 j (by have := HK.out; omega), fun j hj => HI.out.2 j (by have := HK.out; have := E5.out; omega)⟩)
      go_wp2
      go_ret
      exact ⟨by rw [HN.out]; rfl, HU1.out⟩

theorem dright_any (f : Flm) (p : Pl) (w : World) (h : FAt w f p) : Calls Tryd.prog 13 #[.agg (FC f p)] w fun e w' => e = .returned (.bool (decide (okF f))) ∧ Below w.heap.size w w' := by
  obtain ⟨W, H, nl, nd, nn, nb, ns, nf, L, D, N, B, S, F⟩ := f
  obtain ⟨al, cl, ad, cd, an, cn, ab, cb, ax, cx, af, cf⟩ := p
  have hs := h.s
  have hf := h.f
  simp only [] at hs hf
  by_cases h0 : okSh W H nl
  · by_cases h1 : (nd : Int) = W * H
    · by_cases h2 : (nn : Int) = W * H
      · by_cases h3 : (nb : Int) = W * H
        · by_cases h4 : (ns : Int) = W * H
          · by_cases h5 : (nf : Int) = W * H
            · have e : decide (okF ⟨W, H, nl, nd, nn, nb, ns, nf, L, D, N, B, S, F⟩) = decide (lie S ns (-1) 127 ∧ lie F nf (-1) (W * H - 1)) := by
                apply decide_eq_decide.2
                exact ⟨fun k => ⟨k.2.2.2.2.1.2, k.2.2.2.2.2.2⟩, fun k => ⟨h0, h1, h2, h3, ⟨h4, k.1⟩, ⟨h5, k.2⟩⟩⟩
              rw [e]
              exact dright_6 W H al ad an ab ax af cl cd cn cb cx cf nl nd nn nb ns nf S F w hs hf (W * H) rfl h0 h1 h2 h3 h4 h5 _ rfl
            · rw [decide_eq_false (show ¬ okF ⟨W, H, nl, nd, nn, nb, ns, nf, L, D, N, B, S, F⟩ from fun k => h5 k.2.2.2.2.2.1)]
              exact dright_5 W H al ad an ab ax af cl cd cn cb cx cf nl nd nn nb ns nf S F w hs hf (W * H) rfl h0 h1 h2 h3 h4 h5
          · rw [decide_eq_false (show ¬ okF ⟨W, H, nl, nd, nn, nb, ns, nf, L, D, N, B, S, F⟩ from fun k => h4 k.2.2.2.2.1.1)]
            exact dright_4 W H al ad an ab ax af cl cd cn cb cx cf nl nd nn nb ns nf S F w hs hf (W * H) rfl h0 h1 h2 h3 h4
        · rw [decide_eq_false (show ¬ okF ⟨W, H, nl, nd, nn, nb, ns, nf, L, D, N, B, S, F⟩ from fun k => h3 k.2.2.2.1)]
          exact dright_3 W H al ad an ab ax af cl cd cn cb cx cf nl nd nn nb ns nf S F w hs hf (W * H) rfl h0 h1 h2 h3
      · rw [decide_eq_false (show ¬ okF ⟨W, H, nl, nd, nn, nb, ns, nf, L, D, N, B, S, F⟩ from fun k => h2 k.2.2.1)]
        exact dright_2 W H al ad an ab ax af cl cd cn cb cx cf nl nd nn nb ns nf S F w hs hf (W * H) rfl h0 h1 h2
    · rw [decide_eq_false (show ¬ okF ⟨W, H, nl, nd, nn, nb, ns, nf, L, D, N, B, S, F⟩ from fun k => h1 k.2.1)]
      exact dright_1 W H al ad an ab ax af cl cd cn cb cx cf nl nd nn nb ns nf S F w hs hf (W * H) rfl h0 h1
  · rw [decide_eq_false (show ¬ okF ⟨W, H, nl, nd, nn, nb, ns, nf, L, D, N, B, S, F⟩ from fun k => h0 k.1)]
    exact dright_0 W H al ad an ab ax af cl cd cn cb cx cf nl nd nn nb ns nf S F w hs hf h0

end Go.Proofs.YtcohehekkeeeoaaDoor.Fm
