/- Layer 21 (plate): whether a picture may be, by the document. -/
import Derived.Test.YtcohehekkeeeoaaDoorF16
namespace Go.Proofs.YtcohehekkeeeoaaDoor.Pg
open Go.RowKit Go.Proofs.YtcohehekkeeeoaaDoor Go.Proofs.YtcohehekkeeeoaaDoor.Rp Go.Proofs.YtcohehekkeeeoaaDoor.Re Go.Proofs.YtcohehekkeeeoaaDoor.Au Go.Proofs.YtcohehekkeeeoaaDoor.Jw Go.Proofs.YtcohehekkeeeoaaDoor.Fm
set_option linter.unusedVariables false
set_option linter.unusedSimpArgs false

theorem drsize_any (W H : Int) (w : World) : Calls Tryd.prog 26 #[.int .i64 W, .int .i64 H] w fun e w' => e = .returned (.bool (decide (okSz W H))) ∧ w' = w := by
  obtain ⟨r, hr⟩ : ∃ r, r = decide (okSz W H) := ⟨_, rfl⟩
  rw [← hr]
  by_cases h0 : 1 ≤ W
  · skip
    by_cases h1 : W ≤ 64
    · skip
      by_cases h2 : 1 ≤ H
      · skip
        by_cases h3 : H ≤ 64
        · skip
          have HD := Lib.hid (show r = true by rw [hr]; exact decide_eq_true ⟨h0, h1, h2, h3⟩)
          clear hr
          go_enter Tryd.func26, Tryd.ntmps26
          go_wp2
          go_ret
          exact ⟨by rw [HD.out]; rfl, rfl⟩
        · have HD := Lib.hid (show r = false by rw [hr]; exact decide_eq_false fun k => h3 k.2.2.2)
          clear hr
          go_enter Tryd.func26, Tryd.ntmps26
          go_wp2
          go_ret
          exact ⟨by rw [HD.out]; rfl, rfl⟩
      · have HD := Lib.hid (show r = false by rw [hr]; exact decide_eq_false fun k => h2 k.2.2.1)
        clear hr
        go_enter Tryd.func26, Tryd.ntmps26
        go_wp2
        go_ret
        exact ⟨by rw [HD.out]; rfl, rfl⟩
    · have HD := Lib.hid (show r = false by rw [hr]; exact decide_eq_false fun k => h1 k.2.1)
      clear hr
      go_enter Tryd.func26, Tryd.ntmps26
      go_wp2
      go_ret
      exact ⟨by rw [HD.out]; rfl, rfl⟩
  · have HD := Lib.hid (show r = false by rw [hr]; exact decide_eq_false fun k => h0 k.1)
    clear hr
    go_enter Tryd.func26, Tryd.ntmps26
    go_wp2
    go_ret
    exact ⟨by rw [HD.out]; rfl, rfl⟩

set_option maxHeartbeats 2000000 in
set_option maxRecDepth 100000 in
theorem dpright_no (W H : Int) (a : Option Addr) (n c : Nat) (w : World) (h : ¬ okSz W H) : Calls Tryd.prog 27 #[.agg #[.int .i64 W, .int .i64 H, .slice a n c]] w fun e' w' => e' = .returned (.bool false) ∧ Below w.heap.size w w' := by
  have Hh := Lib.hid (show decide (okSz W H) = false from decide_eq_false h)
  clear h
  go_enter Tryd.func27, Tryd.ntmps27
  go_upto_region 1 with fail
  have hR := Au.rows1 w (.cells #[.int .i64 W, .int .i64 H, .slice a n c] 52)
  have HUx := Ve.below_n1 w (.cells #[.int .i64 W, .int .i64 H, .slice a n c] 52)
  obtain ⟨y0, hy0⟩ : ∃ y0, w.alloc (.cells #[.int .i64 W, .int .i64 H, .slice a n c] 52) = y0 := ⟨_, rfl⟩
  rw [hy0] at hR HUx ⊢
  clear hy0
  have HU0 := Lib.hid HUx
  clear HUx
  have hr0_0 := hR
  clear hR
  have c0_0 := cell_of_row _ _ 0 _ _ _ hr0_0
  have c0_1 := cell_of_row _ _ 1 _ _ _ hr0_0
  have c0_2 := cell_of_row _ _ 2 _ _ _ hr0_0
  simp at c0_0 c0_1 c0_2
  go_wp2_with fail
  refine (drsize_any W H _).mono ?_
  rintro e ww ⟨rfl, rfl⟩
  rw [Hh.out]
  go_wp2
  go_ret
  exact ⟨rfl, HU0.out⟩

set_option maxHeartbeats 2000000 in
set_option maxRecDepth 100000 in
theorem dpright_in (W H : Int) (a : Option Addr) (n c : Nat) (w : World) (m : Int) (hm : m = W * H) (h : okSz W H) (hn : (n : Int) = m) : Calls Tryd.prog 27 #[.agg #[.int .i64 W, .int .i64 H, .slice a n c]] w fun e' w' => e' = .returned (.bool true) ∧ Below w.heap.size w w' := by
  have Hh := Lib.hid (show decide (okSz W H) = true from decide_eq_true h)
  obtain ⟨b1, b2⟩ := okSz_mul h
  rw [← hm] at b1 b2
  have hw1 : IntKind.i64.wrap (W * H) = m := by rw [← hm, IntKind.wrap_i64]; omega
  have hw2 : wrap64 (W * H) = m := by rw [← hm]; unfold wrap64; omega
  have hd : ((n : Int) == m) = true := by simpa using hn
  clear hn hm
  clear h
  go_enter Tryd.func27, Tryd.ntmps27
  go_upto_region 1 with fail
  have hR := Au.rows1 w (.cells #[.int .i64 W, .int .i64 H, .slice a n c] 52)
  have HUx := Ve.below_n1 w (.cells #[.int .i64 W, .int .i64 H, .slice a n c] 52)
  obtain ⟨y0, hy0⟩ : ∃ y0, w.alloc (.cells #[.int .i64 W, .int .i64 H, .slice a n c] 52) = y0 := ⟨_, rfl⟩
  rw [hy0] at hR HUx ⊢
  clear hy0
  have HU0 := Lib.hid HUx
  clear HUx
  have hr0_0 := hR
  clear hR
  have c0_0 := cell_of_row _ _ 0 _ _ _ hr0_0
  have c0_1 := cell_of_row _ _ 1 _ _ _ hr0_0
  have c0_2 := cell_of_row _ _ 2 _ _ _ hr0_0
  simp at c0_0 c0_1 c0_2
  go_wp2_with fail
  refine (drsize_any W H _).mono ?_
  rintro e ww ⟨rfl, rfl⟩
  rw [Hh.out]
  go_wp2
  go_ret
  exact ⟨rfl, HU0.out⟩

set_option maxHeartbeats 2000000 in
set_option maxRecDepth 100000 in
theorem dpright_out (W H : Int) (a : Option Addr) (n c : Nat) (w : World) (m : Int) (hm : m = W * H) (h : okSz W H) (hn : ¬ (n : Int) = m) : Calls Tryd.prog 27 #[.agg #[.int .i64 W, .int .i64 H, .slice a n c]] w fun e' w' => e' = .returned (.bool false) ∧ Below w.heap.size w w' := by
  have Hh := Lib.hid (show decide (okSz W H) = true from decide_eq_true h)
  obtain ⟨b1, b2⟩ := okSz_mul h
  rw [← hm] at b1 b2
  have hw1 : IntKind.i64.wrap (W * H) = m := by rw [← hm, IntKind.wrap_i64]; omega
  have hw2 : wrap64 (W * H) = m := by rw [← hm]; unfold wrap64; omega
  have hd : ((n : Int) == m) = false := by simpa using hn
  clear hn hm
  clear h
  go_enter Tryd.func27, Tryd.ntmps27
  go_upto_region 1 with fail
  have hR := Au.rows1 w (.cells #[.int .i64 W, .int .i64 H, .slice a n c] 52)
  have HUx := Ve.below_n1 w (.cells #[.int .i64 W, .int .i64 H, .slice a n c] 52)
  obtain ⟨y0, hy0⟩ : ∃ y0, w.alloc (.cells #[.int .i64 W, .int .i64 H, .slice a n c] 52) = y0 := ⟨_, rfl⟩
  rw [hy0] at hR HUx ⊢
  clear hy0
  have HU0 := Lib.hid HUx
  clear HUx
  have hr0_0 := hR
  clear hR
  have c0_0 := cell_of_row _ _ 0 _ _ _ hr0_0
  have c0_1 := cell_of_row _ _ 1 _ _ _ hr0_0
  have c0_2 := cell_of_row _ _ 2 _ _ _ hr0_0
  simp at c0_0 c0_1 c0_2
  go_wp2_with fail
  refine (drsize_any W H _).mono ?_
  rintro e ww ⟨rfl, rfl⟩
  rw [Hh.out]
  go_wp2
  go_ret
  exact ⟨rfl, HU0.out⟩

theorem dpright_any (W H : Int) (a : Option Addr) (n c : Nat) (w : World) : Calls Tryd.prog 27 #[.agg #[.int .i64 W, .int .i64 H, .slice a n c]] w fun e w' => e = .returned (.bool (decide (okSh W H n))) ∧ Below w.heap.size w w' := by
  by_cases h : okSz W H
  · by_cases hn : (n : Int) = W * H
    · rw [decide_eq_true (show okSh W H n from ⟨h, hn⟩)]; exact dpright_in W H a n c w _ rfl h hn
    · rw [decide_eq_false (show ¬ okSh W H n from fun k => hn k.2)]; exact dpright_out W H a n c w _ rfl h hn
  · rw [decide_eq_false (show ¬ okSh W H n from fun k => h k.1)]; exact dpright_no W H a n c w h

end Go.Proofs.YtcohehekkeeeoaaDoor.Pg
