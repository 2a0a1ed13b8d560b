/- Layer 22, the document's tables: the first bits of a cube root. -/
import Derived.Test.YtndpidmbfdpiaaaDoorK39
namespace Go.Proofs.YtndpidmbfdpiaaaDoor.Se
open Go Go.RowKit Go.Proofs.YtndpidmbfdpiaaaDoor Go.Proofs.YtndpidmbfdpiaaaDoor.Au Go.Proofs.YtndpidmbfdpiaaaDoor.Re
set_option linter.unusedVariables false
set_option linter.unusedSimpArgs false

theorem bit_pos3 : ∀ j : Fin 37, (0 < 34359738368 / 2 ^ j.val) ↔ j.val < 36 := by decide +kernel

def cubeN (n : Nat) : Nat := srch (fun x => thirdB x n) 34359738368 36 % 4294967296

set_option maxHeartbeats 4000000 in
set_option maxRecDepth 100000 in
theorem cube_letter (n C : Nat) (hC : C = cubeN n) (w : World) : Calls Tryd.prog 22 #[.int .u64 (n : Int)] w fun e w' => e = .returned (.int .u32 (C : Int)) ∧ Below w.heap.size w w' := by
  obtain ⟨P, hP⟩ : ∃ P : Nat → Bool, P = fun x => thirdB x n := ⟨_, rfl⟩
  have HT3 := Lib.hid (show ∀ (y : Nat) (W : World), y < 68719476736 → Calls Tryd.prog 37 #[.int .u64 (y : Int), .int .u64 (n : Int)] W fun e w' => e = .returned (.bool (P y)) ∧ Below W.heap.size W w' from fun y W hy => by rw [hP]; exact third_any y n W (by omega))
  have HQ := Lib.hid (show C = srch P 34359738368 36 % 4294967296 by rw [hP, hC]; unfold cubeN; rfl)
  clear hP hC
  go_enter Tryd.func22, Tryd.ntmps22
  go_wp2_with fail
  go_loopw [3, 4] (fun xv bv wr => ∃ (j x b : Nat), j ≤ 36 ∧ xv = .int .u64 (x : Int) ∧ bv = .int .u64 (b : Int) ∧ Hid (x = srch P 34359738368 j) ∧ Hid (b = 34359738368 / 2 ^ j) ∧ x + 2 * b ≤ 68719476736 ∧ (0 < b ↔ j < 36) ∧ Hid (Below w.heap.size w wr)) (fun _ bv _ => (intOf bv).toNat)
  case atStart => exact ⟨0, 0, 34359738368, by omega, rfl, rfl, Lib.hid rfl, Lib.hid (by decide), by omega, by omega, Lib.hid (Below.refl _ _)⟩
  case round =>
    obtain ⟨j, x, b, hj, rfl, rfl, HX, HB, hxb, hbj, HU⟩ := hrel
    by_cases hb : 0 < b
    · have hb' : 0 < (b : Int) := by omega
      have hj37 : j < 36 := hbj.1 hb
      obtain ⟨y, hy⟩ : ∃ y : Nat, y = x + b := ⟨_, rfl⟩
      have e1 : (x : Int) + (b : Int) = (y : Int) := by omega
      have w1 : IntKind.u64.wrap (y : Int) = (y : Int) := wrap64 _ (by omega) (by omega)
      have m1 : (y : Int) % 18446744073709551616 = (y : Int) := by omega
      obtain ⟨b2, hb2⟩ : ∃ z : Nat, z = b / 2 := ⟨_, rfl⟩
      have e2 : (b : Int) / 2 = (b2 : Int) := by omega
      have HB2 := Lib.hid (show b2 = 34359738368 / 2 ^ (j + 1) by rw [hb2, HB.out, bit_half])
      have hbj2 : 0 < b2 ↔ j + 1 < 36 := by rw [HB2.out]; exact bit_pos3 ⟨j + 1, by omega⟩
      have hy37 : y < 68719476736 := by omega
      have HY := Lib.hid hy
      have hb2l : 2 * b2 ≤ b := by omega
      have hb2b : b2 < b := by omega
      have hyb : y + 2 * b2 ≤ 68719476736 := by omega
      have hxb2 : x + 2 * b2 ≤ 68719476736 := by omega
      clear hy hb2 hbj
      go_wp2_with fail
      refine (HT3.out y _ hy37).mono ?_
      rintro e y1 ⟨rfl, hb1⟩
      have HU1 := Lib.hid (HU.out.trans (hb1.mono HU.out.size))
      by_cases hh : P y = true
      · have HX2 := Lib.hid (show y = srch P 34359738368 (j + 1) by simp only [srch]; rw [← HX.out, ← HB.out, ← HY.out, if_pos hh])
        rw [hh]
        go_wp2_with fail
        go_roundw
        case rel => exact ⟨j + 1, y, b2, by omega, rfl, rfl, HX2, HB2, hyb, hbj2, HU1⟩
        case measure => simp [intOf]; omega
      · have hf : P y = false := by simpa using hh
        have HX2 := Lib.hid (show x = srch P 34359738368 (j + 1) by simp only [srch]; rw [← HX.out, ← HB.out, ← HY.out, if_neg hh])
        rw [hf]
        go_wp2_with fail
        go_roundw
        case rel => exact ⟨j + 1, x, b2, by omega, rfl, rfl, HX2, HB2, hxb2, hbj2, HU1⟩
        case measure => simp [intOf]; omega
    · have hb' : ¬ 0 < (b : Int) := by omega
      have HJ := Lib.hid (show j = 36 by omega)
      obtain ⟨r, hr⟩ : ∃ r : Nat, r = x % 4294967296 := ⟨_, rfl⟩
      have e1 : (x : Int) % 4294967296 = (r : Int) := by omega
      have w1 : IntKind.u32.wrap (r : Int) = (r : Int) := by rw [IntKind.wrap_u32']; omega
      have m1 : (r : Int) % 4294967296 = (r : Int) := by omega
      have HR := Lib.hid (show C = r by rw [HQ.out, hr, HX.out, HJ.out])
      clear hr
      go_wp2_with fail
      go_ret
      exact ⟨by rw [HR.out]; rfl, HU.out⟩

theorem cube_any (n : Nat) (w : World) : Calls Tryd.prog 22 #[.int .u64 (n : Int)] w fun e w' => e = .returned (.int .u32 (cubeN n : Int)) ∧ Below w.heap.size w w' := cube_letter n _ rfl w

end Go.Proofs.YtndpidmbfdpiaaaDoor.Se
