/- Jobs: how many there are, what every job begins with; some things one behind the other, read off a reader, by the program. -/
import Derived.Test.YtplcbdmiccpnnaaGreatC24
import Derived.Test.YtplcbdmiccpnnaaGreatC25
import Derived.Laws.AppendOwnNone
import Derived.OwnWalk
import Derived.Lib.SlBytesConst
namespace Go.Proofs.YtplcbdmiccpnnaaGreat.Jb
open Go.RowKit Go.Proofs.YtplcbdmiccpnnaaGreat Go.Proofs.YtplcbdmiccpnnaaGreat.Rp Go.Proofs.YtplcbdmiccpnnaaGreat.Re Go.Proofs.YtplcbdmiccpnnaaGreat.Au
set_option linter.unusedVariables false
set_option linter.unusedSimpArgs false

/-- how many there are, of so many at most -/
def manyS (s : St) (most e : Int) : Nat × St := if most < ((numS s 1).1 : Int) then (0, failS (numS s 1).2 e) else ((numS s 1).1, (numS s 1).2)

theorem many_more {s : St} {most e : Int} (h : most < ((numS s 1).1 : Int)) : manyS s most e = (0, failS (numS s 1).2 e) := by unfold manyS; rw [if_pos h]

theorem many_in {s : St} {most e : Int} (h : ¬ most < ((numS s 1).1 : Int)) : manyS s most e = ((numS s 1).1, (numS s 1).2) := by unfold manyS; rw [if_neg h]

set_option maxHeartbeats 2000000 in
set_option maxRecDepth 100000 in
theorem jmany_more (g : Nat) {B : Nat} (s : St) (most e : Int) (z : Nat) (hz : (numS s 1).1 = z) (h : most < (z : Int)) (w : World) (hw : RP (.pointer (some ⟨g, 0, none⟩)) g B s w) (hg : g < w.heap.size) (hB : B ≤ w.heap.size) : Calls Tryz.prog 28 #[.agg #[.pointer (some ⟨g, 0, none⟩)], .int .i64 most, .int .i64 e] w fun e' w' => e' = .returned (.int .i64 0) ∧ RP (.pointer (some ⟨g, 0, none⟩)) g B (failS (numS s 1).2 e) w' ∧ Aft g w.heap.size w w' := by
  have HPw := Lib.hid hw
  clear hw
  have Hh := Lib.hid h
  clear h
  go_enter Tryz.func28, Tryz.ntmps28
  go_upto_region 1 with fail
  have hR := Au.rows1 w (.cells #[.pointer (some ⟨g, 0, none⟩)] 59)
  have HUx := Ve.below_n1 w (.cells #[.pointer (some ⟨g, 0, none⟩)] 59)
  obtain ⟨y0, hy0⟩ : ∃ y0, w.alloc (.cells #[.pointer (some ⟨g, 0, none⟩)] 59) = y0 := ⟨_, rfl⟩
  rw [hy0] at hR HUx ⊢
  clear hy0
  have HP0 := Lib.hid (HPw.out.new HUx)
  have hz0 := HUx.size
  have HU0 := Lib.hid (Aft.of (g := g) (base := w.heap.size) HUx)
  clear HUx
  have hr0_0 := hR
  clear hR
  have c0_0 := cell_of_row _ _ 0 _ _ _ hr0_0
  simp at c0_0
  go_wp2_with fail
  refine (rbyte_any _ g s _ HP0.out).mono ?_
  rintro e y1 ⟨rfl, hp1, hb1⟩
  have HP1 := Lib.hid hp1
  have hz1 := hb1.size
  clear c0_0
  have hr1_0 := (hb1.block _ (lt_heap hr0_0) (lt_heap hr0_0) (by omega)).trans hr0_0
  have HU1 := Lib.hid (HU0.out.trans (hb1.mono HU0.out.size))
  clear hr0_0 HU0
  rw [hz]
  have h := Hh.out
  have d := decide_eq_true (show most < (z : Int) by omega)
  clear h
  have c0_0 := cell_of_row _ _ 0 _ _ _ hr1_0
  simp at c0_0
  go_wp2_with fail
  refine (fail_any _ g _ e _ HP1.out).mono ?_
  rintro e y2 ⟨rfl, hp2, hb2⟩
  have HP2 := Lib.hid hp2
  have hz2 := hb2.size
  clear c0_0
  have hr2_0 := (hb2.block _ (lt_heap hr1_0) (lt_heap hr1_0) (by omega)).trans hr1_0
  have HU2 := Lib.hid (HU1.out.trans (hb2.mono HU1.out.size))
  clear hr1_0 HU1
  go_wp2
  go_ret
  exact ⟨rfl, HP2.out, HU2.out⟩

set_option maxHeartbeats 2000000 in
set_option maxRecDepth 100000 in
theorem jmany_in (g : Nat) {B : Nat} (s : St) (most e : Int) (z : Nat) (hz : (numS s 1).1 = z) (h : ¬ most < (z : Int)) (w : World) (hw : RP (.pointer (some ⟨g, 0, none⟩)) g B s w) (hg : g < w.heap.size) (hB : B ≤ w.heap.size) : Calls Tryz.prog 28 #[.agg #[.pointer (some ⟨g, 0, none⟩)], .int .i64 most, .int .i64 e] w fun e' w' => e' = .returned (.int .i64 (z : Int)) ∧ RP (.pointer (some ⟨g, 0, none⟩)) g B ((numS s 1).2) w' ∧ Aft g w.heap.size w w' := by
  have HPw := Lib.hid hw
  clear hw
  have Hh := Lib.hid h
  clear h
  go_enter Tryz.func28, Tryz.ntmps28
  go_upto_region 1 with fail
  have hR := Au.rows1 w (.cells #[.pointer (some ⟨g, 0, none⟩)] 59)
  have HUx := Ve.below_n1 w (.cells #[.pointer (some ⟨g, 0, none⟩)] 59)
  obtain ⟨y0, hy0⟩ : ∃ y0, w.alloc (.cells #[.pointer (some ⟨g, 0, none⟩)] 59) = y0 := ⟨_, rfl⟩
  rw [hy0] at hR HUx ⊢
  clear hy0
  have HP0 := Lib.hid (HPw.out.new HUx)
  have hz0 := HUx.size
  have HU0 := Lib.hid (Aft.of (g := g) (base := w.heap.size) HUx)
  clear HUx
  have hr0_0 := hR
  clear hR
  have c0_0 := cell_of_row _ _ 0 _ _ _ hr0_0
  simp at c0_0
  go_wp2_with fail
  refine (rbyte_any _ g s _ HP0.out).mono ?_
  rintro e y1 ⟨rfl, hp1, hb1⟩
  have HP1 := Lib.hid hp1
  have hz1 := hb1.size
  clear c0_0
  have hr1_0 := (hb1.block _ (lt_heap hr0_0) (lt_heap hr0_0) (by omega)).trans hr0_0
  have HU1 := Lib.hid (HU0.out.trans (hb1.mono HU0.out.size))
  clear hr0_0 HU0
  rw [hz]
  have h := Hh.out
  have d := decide_eq_false (show ¬ most < (z : Int) by omega)
  clear h
  have c0_0 := cell_of_row _ _ 0 _ _ _ hr1_0
  simp at c0_0
  go_wp2
  go_ret
  exact ⟨rfl, HP1.out, HU1.out⟩

theorem jmany (g : Nat) {B : Nat} (s : St) (most e : Int) (w : World) (hw : RP (.pointer (some ⟨g, 0, none⟩)) g B s w) (hg : g < w.heap.size) (hB : B ≤ w.heap.size) : Calls Tryz.prog 28 #[.agg #[.pointer (some ⟨g, 0, none⟩)], .int .i64 most, .int .i64 e] w fun e' w' => e' = .returned (.int .i64 ((manyS s most e).1 : Int)) ∧ RP (.pointer (some ⟨g, 0, none⟩)) g B (manyS s most e).2 w' ∧ Aft g w.heap.size w w' := by
  by_cases h : most < ((numS s 1).1 : Int)
  · rw [many_more h]; exact jmany_more g s most e _ rfl h w hw hg hB
  · rw [many_in h]; exact jmany_in g s most e _ rfl h w hw hg hB

/-- a byte that must be so -/
def mg (b : Nat) (s : St) : St := if (numS s 1).1 = b then (numS s 1).2 else failS (numS s 1).2 20

def mgb (k : Nat) : Nat := [90, 79, 69, 49].getD k 0

def mgK (s : St) : Nat → St
  | 0 => s
  | k + 1 => mg (mgb k) (mgK s k)

theorem mg_is {b : Nat} {s : St} (h : (numS s 1).1 = b) : mg b s = (numS s 1).2 := by unfold mg; rw [if_pos h]

theorem mg_not {b : Nat} {s : St} (h : ¬ (numS s 1).1 = b) : mg b s = failS (numS s 1).2 20 := by unfold mg; rw [if_neg h]

theorem mgb_lt (k : Nat) : mgb k < 256 := by
  match k with
  | 0 => decide
  | 1 => decide
  | 2 => decide
  | 3 => decide
  | k + 4 => simp [mgb]

set_option maxHeartbeats 4000000 in
set_option maxRecDepth 100000 in
theorem jmagic (g : Nat) {B : Nat} (s : St) (w : World) (hw : RP (.pointer (some ⟨g, 0, none⟩)) g B s w) (hg : g < w.heap.size) (hB : B ≤ w.heap.size) : Calls Tryz.prog 25 #[.agg #[.pointer (some ⟨g, 0, none⟩)]] w fun e' w' => e' = .returned (.tuple #[]) ∧ RP (.pointer (some ⟨g, 0, none⟩)) g B (mgK s 4) w' ∧ Aft g w.heap.size w w' := by
  have HPw := Lib.hid hw
  clear hw
  have kc := fun (w : World) (C : Array Value) (n c : Nat) => Lib.run_convert_bytes_const (P := Tryz.prog) w 22 5 C n c Tryz.underlying22 Tryz.underlying5
  go_enter Tryz.func25, Tryz.ntmps25
  go_upto_region 1 with fail
  have hR := Au.rows1 w (.cells #[.pointer (some ⟨g, 0, none⟩)] 59)
  have HUx := Ve.below_n1 w (.cells #[.pointer (some ⟨g, 0, none⟩)] 59)
  obtain ⟨y0, hy0⟩ : ∃ y0, w.alloc (.cells #[.pointer (some ⟨g, 0, none⟩)] 59) = y0 := ⟨_, rfl⟩
  rw [hy0] at hR HUx ⊢
  clear hy0
  have HP0 := Lib.hid (HPw.out.new HUx)
  have hz0 := HUx.size
  have HU0 := Lib.hid (Aft.of (g := g) (base := w.heap.size) HUx)
  clear HUx
  have hr0_0 := hR
  clear hR
  go_wp2_with fail
  have hb1 := Ve.below_n1 y0 (.cells #[.int .u8 90, .int .u8 79, .int .u8 69, .int .u8 49] 5 (4, 5))
  have hp1 := HP0.out.new hb1
  have hb1 := Aft.of (g := g) (base := y0.heap.size) hb1
  have hN := heap_alloc_last y0 (.cells #[.int .u8 90, .int .u8 79, .int .u8 69, .int .u8 49] 5 (4, 5))
  obtain ⟨y1, hy1⟩ : ∃ y, y0.alloc (.cells #[.int .u8 90, .int .u8 79, .int .u8 69, .int .u8 49] 5 (4, 5)) = y := ⟨_, rfl⟩
  rw [hy1] at hb1 hN hp1 ⊢
  clear hy1
  have HP1 := Lib.hid hp1
  have hz1 := hb1.size
  have hl1_0 := lt_heap hr0_0
  have hr1_0 := (hb1.block _ (lt_heap hr0_0) (lt_heap hr0_0) (by omega)).trans hr0_0
  have HU1 := Lib.hid (HU0.out.trans (hb1.mono HU0.out.size))
  clear hr0_0 HU0
  have hr1_1 := hN
  clear hN
  go_loopw [7] (fun i wr => ∃ k : Nat, k ≤ 4 ∧ i = .int .i64 k ∧ wr.heap[w.heap.size]? = some (.cells #[.pointer (some ⟨g, 0, none⟩)] 59 (0, 0)) ∧ wr.heap[y0.heap.size]? = some (.cells #[.int .u8 90, .int .u8 79, .int .u8 69, .int .u8 49] 5 (4, 5)) ∧ Hid (RP (.pointer (some ⟨g, 0, none⟩)) g B (mgK s k) wr) ∧ Hid (Aft g w.heap.size w wr)) (fun i _ => 4 - (intOf i).toNat)
  case atStart => exact ⟨0, by omega, rfl, hr1_0, hr1_1, HP1, HU1⟩
  case round =>
    clear hr1_0 hr1_1 HU1 HP1
    obtain ⟨k, hk, rfl, hr20_0, hr20_1, HP20, HU20⟩ := hrel
    obtain ⟨y20, rfl⟩ : ∃ y : World, y = wr := ⟨_, rfl⟩
    have hz20 := HU20.out.size
    by_cases hlt : k < 4
    · skip
      have hlt' : (k : Int) < 4 := by omega
      have hml := mgb_lt k
      obtain ⟨m, hm⟩ : ∃ m, m = mgb k := ⟨_, rfl⟩
      rw [← hm] at hml
      have HM := Lib.hid hm
      have c1k : y20.cell? ⟨y0.heap.size, k, none⟩ = some (.int .u8 (m : Int)) := by
        rw [cell_of_row _ _ k _ _ _ hr20_1, hm]
        rcases (show k = 0 ∨ k = 1 ∨ k = 2 ∨ k = 3 by omega) with rfl | rfl | rfl | rfl <;> rfl
      clear hm
      have c0_0 := cell_of_row _ _ 0 _ _ _ hr20_0
      simp at c0_0
      go_wp2_with fail
      clear c1k
      refine (rbyte_any _ g (mgK s k) _ HP20.out).mono ?_
      rintro e y21 ⟨rfl, hp21, hb21⟩
      have HP21 := Lib.hid hp21
      have hz21 := hb21.size
      clear c0_0
      have hr21_0 := (hb21.block _ (lt_heap hr20_0) (lt_heap hr20_0) (by omega)).trans hr20_0
      have hr21_1 := (hb21.block _ (lt_heap hr20_1) (lt_heap hr20_1) (by omega)).trans hr20_1
      have HU21 := Lib.hid (HU20.out.trans (hb21.mono HU20.out.size))
      clear hr20_0 hr20_1 HU20
      obtain ⟨z, hz⟩ : ∃ z, (numS (mgK s k) 1).1 = z := ⟨_, rfl⟩
      rw [hz]
      have HZ := Lib.hid hz
      clear hz
      by_cases hzm : z = m
      · skip
        have d1 : ((z : Int) == (m : Int)) = true := by subst hzm; simp
        have d2 : ((z : Int) != (m : Int)) = false := by subst hzm; simp
        have HS := Lib.hid (show mgK s (k + 1) = (numS (mgK s k) 1).2 from mg_is (by rw [← HM.out, HZ.out]; exact hzm))
        clear hzm
        have c0_0 := cell_of_row _ _ 0 _ _ _ hr21_0
        simp at c0_0
        go_wp2_with fail
        clear c0_0
        go_roundw
        case rel => exact ⟨k + 1, by omega, by go_num, hr21_0, hr21_1, Lib.hid (by rw [HS.out]; exact HP21.out), HU21⟩
        case measure => simp [intOf]; omega
      · skip
        have d1 : ((z : Int) == (m : Int)) = false := by simp; omega
        have d2 : ((z : Int) != (m : Int)) = true := by simp; omega
        have HS := Lib.hid (show mgK s (k + 1) = failS (numS (mgK s k) 1).2 20 from mg_not (by rw [← HM.out, HZ.out]; exact hzm))
        clear hzm
        have c0_0 := cell_of_row _ _ 0 _ _ _ hr21_0
        simp at c0_0
        go_wp2_with fail
        refine (fail_any _ g _ 20 _ HP21.out).mono ?_
        rintro e y22 ⟨rfl, hp22, hb22⟩
        have HP22 := Lib.hid hp22
        have hz22 := hb22.size
        clear c0_0
        have hr22_0 := (hb22.block _ (lt_heap hr21_0) (lt_heap hr21_0) (by omega)).trans hr21_0
        have hr22_1 := (hb22.block _ (lt_heap hr21_1) (lt_heap hr21_1) (by omega)).trans hr21_1
        have HU22 := Lib.hid (HU21.out.trans (hb22.mono HU21.out.size))
        clear hr21_0 hr21_1 HU21
        go_wp2_with fail
        go_roundw
        case rel => exact ⟨k + 1, by omega, by go_num, hr22_0, hr22_1, Lib.hid (by rw [HS.out]; exact HP22.out), HU22⟩
        case measure => simp [intOf]; omega
    · have HK4 := Lib.hid (show k = 4 by omega)
      have hge : ¬ (k : Int) < 4 := by omega
      clear hlt
      go_wp2
      go_end0
      exact ⟨rfl, by rw [← HK4.out]; exact HP20.out, HU20.out⟩

end Go.Proofs.YtplcbdmiccpnnaaGreat.Jb
