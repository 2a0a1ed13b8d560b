/- Trees: how deep a tree is, by the program, empty ones too. -/
import Derived.Test.YtoppcnkfgmbpfaaG2
namespace Go.Proofs.Ytoppcnkfgmbpfaa.Tr
open Go.RowKit Go.Proofs.Ytoppcnkfgmbpfaa Go.Proofs.Ytoppcnkfgmbpfaa.Wa Go.Proofs.Ytoppcnkfgmbpfaa.Ve Go.Proofs.Ytoppcnkfgmbpfaa.Au Go.Proofs.Ytoppcnkfgmbpfaa.Bx
set_option linter.unusedVariables false
set_option linter.unusedSimpArgs false

set_option maxHeartbeats 4000000 in
set_option maxRecDepth 100000 in
theorem deep_pnil (az : Option Addr) (kz : Nat) (ao : Option Addr) (no ko : Nat) (w : World) :
    Calls Try.prog 9 #[.agg #[.slice az 0 kz, .slice ao no ko]] w fun e w' => e = .returned (.int .i64 0) ∧ Below w.heap.size w w' := by

  obtain ⟨j0, ji, jz0, jz1, jz2⟩ := info_parts infoInt1
  go_enter Try.func9, Try.ntmps9
  go_upto_region 1 with fail
  have hR := Au.rows1 w (.cells #[.slice az 0 kz, .slice ao no ko] 27)
  have HUx := below_n1 w (.cells #[.slice az 0 kz, .slice ao no ko] 27)
  obtain ⟨y0, hy0⟩ : ∃ y0, w.alloc (.cells #[.slice az 0 kz, .slice ao no ko] 27) = y0 := ⟨_, rfl⟩
  rw [hy0] at hR HUx ⊢
  clear hy0
  have HU0 := Lib.hid HUx
  clear HUx
  have hr0_0 := hR
  clear hR
  go_upto_region 2 with fail
  have hsz0 := HU0.out.size
  have hrt := lt_heap hr0_0
  have HT := Lib.hid hr0_0
  have c0_0 := cell_of_row _ _ 0 _ _ _ hr0_0
  have c0_1 := cell_of_row _ _ 1 _ _ _ hr0_0
  simp at c0_0 c0_1
  have hmax : 0 ≤ maxLen := by omega
  have hbyt : j0.bytes * 0 ≤ 281474976710656 := by omega
  go_wp2_with (first | (at_make; refine wpList_make_full _ rfl _ _ 25 rfl y0.heap.size 3 j0 (.int .i64 0) 1 Try.underlying25 ji jz0 jz1 _ _ _ _ 0 rfl rfl rfl rfl hbyt hmax (Nat.le_refl _) ?_))
  intro w1 hown hgrow
  have hb1 : Below y0.heap.size y0 w1 := (Below.refl _ _).grown hgrow (Nat.le_refl _) (fun k hk => by cases hk)
  have HT1 := (hb1.block _ hrt).trans HT.out
  have d0_0 := cell_of_row _ _ 0 _ _ _ HT1
  simp at d0_0
  have HB1 := Lib.hid (HU0.out.trans (hb1.mono hsz0))
  clear hown hgrow hb1 hmax hbyt HT1 c0_0 c0_1
  go_upto_region 4 with fail
  clear d0_0
  go_loopw [3, 5, 6, 8, 16, 33] (fun s3 s5 s6 s8 i s33 wr => i = .int .i64 0 ∧ s3 = .int .i64 0 ∧ Hid (Below w.heap.size w wr)) (fun _ _ _ _ i _ _ => 0)
  case atStart => exact ⟨rfl, rfl, HB1⟩
  case round =>
    obtain ⟨rfl, rfl, HB⟩ := hrel
    go_wp2_with fail
    go_ret
    exact ⟨rfl, HB.out⟩

theorem deep2 (PL : Nat → Int) (n b : Nat) (v vo : Value) (w : World) (hvo : ∃ a m k, vo = .slice a m k) (hr : w.ownsRow b 45 16 v (mk2 PL n).1.length (flatNd PL (mk2 PL n).1)) :
    Calls Try.prog 9 #[.agg #[v, vo]] w fun e w' => e = .returned (.int .i64 (deepN PL n)) ∧ Below w.heap.size w w' := by
  obtain ⟨a, m, k, rfl⟩ := hvo
  have hl := mk2_len PL n
  have hD := D_mk2 PL n
  by_cases h : (mk2 PL n).1.length = 0
  · have hz : deepN PL n = 0 := by
      rw [h] at hD
      rw [← hD]
      rfl
    rw [hz]
    rw [h] at hr
    rcases hr.2 with ⟨rfl, -⟩ | ⟨g, cap, cur, rfl, -⟩
    · exact deep_pnil none 0 a m k w
    · exact deep_pnil _ cap a m k w
  · rcases hr.2 with ⟨-, hx⟩ | ⟨g, cap, cur, hv, -⟩
    · exact absurd hx h
    · rw [hv] at hr ⊢
      rw [← hD]
      exact deep_p PL (mk2 PL n).1 b g cap (by omega) (.slice a m k) a m k rfl w hr

end Go.Proofs.Ytoppcnkfgmbpfaa.Tr
