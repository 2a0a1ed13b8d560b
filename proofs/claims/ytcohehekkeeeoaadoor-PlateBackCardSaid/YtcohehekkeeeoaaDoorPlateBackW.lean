/- PlateBack (zoetropelaw21): its walk. -/
import Derived.Test.YtcohehekkeeeoaaDoorPgx
namespace Go.Proofs.YtcohehekkeeeoaaDoor.plateBackW
open Go Go.RowKit Go.Proofs.YtcohehekkeeeoaaDoor Go.Proofs.YtcohehekkeeeoaaDoor.Pg
set_option linter.unusedVariables false
set_option linter.unusedSimpArgs false

set_option maxHeartbeats 2000000 in
set_option maxRecDepth 100000 in
theorem big (x y : Int) (a : Option Addr) (n c : Nat) (v : Value) (w : World) (hn : ¬ n ≤ 5000) : Calls Tryd.prog 5 #[.agg #[.int .i64 x, .int .i64 y, .slice a n c], v] w fun e' w' => e' = .returned (.bool true) ∧ Below w.heap.size w w' := by
  have hni : (5000 : Int) < n := by omega
  go_enter Tryd.func5, Tryd.ntmps5
  go_upto_region 1 with fail
  have hr0 := heap_alloc_last w (.cells #[.int .i64 x, .int .i64 y, .slice a n c] 52)
  have hb0 := Ve.below_n1 w (.cells #[.int .i64 x, .int .i64 y, .slice a n c] 52)
  obtain ⟨y0, hy0⟩ : ∃ y0, w.alloc (.cells #[.int .i64 x, .int .i64 y, .slice a n c] 52) = y0 := ⟨_, rfl⟩
  rw [hy0] at hr0 hb0 ⊢
  clear hy0
  have c2 := cell_of_row _ _ 2 _ _ _ hr0
  simp at c2
  have HB := Lib.hid hb0
  clear hb0
  go_wp2_with (go_at_call 7; refine (awake_any _).mono ?_; rintro e y1 ⟨rfl, hb1⟩)
  go_ret
  exact ⟨rfl, HB.out.trans (hb1.mono HB.out.size)⟩

theorem dec_all (l : List UInt8) : ∃ E w h r, Dec l E w h r := by
  by_cases hm : l.take 3 = [80, 54, 10]
  · by_cases hh : ∃ w h r, HeadOf l w h r
    · obtain ⟨w, h, r, H⟩ := hh
      rcases Nat.lt_trichotomy r.length (3 * (w * h)) with h1 | h1 | h1
      · exact ⟨_, _, _, _, .short H h1⟩
      · exact ⟨_, _, _, _, .ok H h1⟩
      · exact ⟨_, _, _, _, .long H h1⟩
    · exact ⟨_, _, _, _, .form hm (fun w h r H => hh ⟨w, h, r, H⟩)⟩
  · exact ⟨_, _, _, _, .magic hm⟩

theorem walk (x y : Int) (a : Option Addr) (n c : Nat) (D : List UInt8) (ab : Option Addr) (nb cb : Nat) (lb : List UInt8) (w : World) (hD : Dn w a n c D) (hb : BA w ab nb cb lb) (hnb : nb ≤ 140737488351232) : Calls Tryd.prog 5 #[.agg #[.int .i64 x, .int .i64 y, .slice a n c], .slice ab nb cb] w fun e' w' => e' = .returned (.bool true) ∧ Below w.heap.size w w' := by
  by_cases hn : n ≤ 5000
  · obtain ⟨E, dw, dh, DD, hdec⟩ := dec_all lb
    by_cases hok : Fm.okSh x y n
    · by_cases hE : E = 0
      · exact back_yy x y a n c D ab nb cb lb w hD hb hnb hn hok E dw dh _ DD hdec hE rfl
      · exact back_yn x y a n c D ab nb cb lb w hD hb hnb hn hok E dw dh _ DD hdec hE rfl
    · by_cases hE : E = 0
      · exact back_ny x y a n c D ab nb cb lb w hD hb hnb hn hok E dw dh _ DD hdec hE rfl
      · exact back_nn x y a n c D ab nb cb lb w hD hb hnb hn hok E dw dh _ DD hdec hE rfl
  · exact big x y a n c _ w hn

end Go.Proofs.YtcohehekkeeeoaaDoor.plateBackW
