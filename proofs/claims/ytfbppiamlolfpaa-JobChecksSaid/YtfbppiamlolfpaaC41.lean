/- The example of layer 9: bytes that are no job. -/
import Derived.Test.YtfbppiamlolfpaaC40
import Derived.Lib.SlBytesConst
namespace Go.Proofs.Ytfbppiamlolfpaa.Jb
open Go Go.RowKit Go.Proofs.Ytfbppiamlolfpaa Go.Proofs.Ytfbppiamlolfpaa.Rp Go.Proofs.Ytfbppiamlolfpaa.Re Go.Proofs.Ytfbppiamlolfpaa.Au Go.Proofs.Ytfbppiamlolfpaa.Sc Go.Proofs.Ytfbppiamlolfpaa.Tk
set_option linter.unusedVariables false
set_option linter.unusedSimpArgs false

theorem par1 : parE [90, 79, 69, 50] = 20 := by decide +kernel

theorem par2 : parE [90, 79] = 9 := by decide +kernel

theorem infoZC : (Try.prog.info? 51).map (·.size) = some zeroC.size := infoSC

theorem zeroSz : (#[.int .i64 0, .int .i64 0, .int .i64 0, .int .i64 0, .int .i64 0, .int .i64 0, .int .u64 0, .int .i64 0, .int .i64 0, .int .i64 0, .int .i64 0, .int .i64 0, .int .i64 0, .slice none 0 0, .slice none 0 0, .slice none 0 0, .slice none 0 0] : Array Value).size = zeroC.size := rfl

theorem zeroOne : zeroC.all (·.oneCell') = true := by simp [zeroC, Value.oneCell']

set_option maxHeartbeats 4000000 in
set_option maxRecDepth 100000 in
theorem jawake (w : World) : Calls Try.prog 7 #[] w fun e w' => e = .returned (.bool true) ∧ Below w.heap.size w w' := by
  have kc := fun (w : World) (C : Array Value) (n c : Nat) => Lib.run_convert_bytes_const (P := Try.prog) w 33 5 C n c Try.underlying33 Try.underlying5
  go_enter Try.func7, Try.ntmps7
  go_wp2_with fail
  refine (jparse [90, 79, 69, 50] _ 4 4 _ (bs_block [90, 79, 69, 50] 4 (heap_alloc_last _ _)) rfl).mono ?_
  rintro e w1 ⟨h1, hb1⟩
  rw [par1] at h1
  rcases h1 with ⟨-, rfl⟩ | ⟨h1, -⟩
  rotate_left
  · exact absurd h1 (by decide)
  have HU1 := Lib.hid ((Ve.below_n1 w _).trans (hb1.mono (by simp)))
  clear hb1
  go_upto_region 2 with (with_reducible refine wpList_store_new rfl 51 (.tmp 1) (.tmp 9) rfl w1 #[.int .i64 0, .int .i64 0, .int .i64 0, .int .i64 0, .int .i64 0, .int .i64 0, .int .u64 0, .int .i64 0, .int .i64 0, .int .i64 0, .int .i64 0, .int .i64 0, .int .i64 0, .slice none 0 0, .slice none 0 0, .slice none 0 0, .slice none 0 0] zeroC w1.heap.size rfl rfl rfl infoZC zeroSz zeroOne ?_)
  have hbn := Ve.below_n1 w1 (.cells zeroC 51)
  have hNn := heap_alloc_last w1 (.cells zeroC 51)
  obtain ⟨y2, hyn⟩ : ∃ y, w1.alloc (.cells zeroC 51) = y := ⟨_, rfl⟩
  rw [hyn] at hbn hNn ⊢
  clear hyn
  have HU2 := Lib.hid (HU1.out.trans (hbn.mono HU1.out.size))
  clear hbn hNn
  go_wp2_with fail
  refine (jparse [90, 79] _ 2 2 _ (bs_block [90, 79] 2 (heap_alloc_last _ _)) rfl).mono ?_
  rintro e w3 ⟨h3, hb3⟩
  rw [par2] at h3
  rcases h3 with ⟨-, rfl⟩ | ⟨h3, -⟩
  rotate_left
  · exact absurd h3 (by decide)
  have HU3 := Lib.hid (HU2.out.trans (((Ve.below_n1 y2 _).trans (hb3.mono (by simp))).mono HU2.out.size))
  clear hb3 HU2
  go_upto_region 3 with (with_reducible refine wpList_store_new rfl 51 (.tmp 3) (.tmp 15) rfl w3 #[.int .i64 0, .int .i64 0, .int .i64 0, .int .i64 0, .int .i64 0, .int .i64 0, .int .u64 0, .int .i64 0, .int .i64 0, .int .i64 0, .int .i64 0, .int .i64 0, .int .i64 0, .slice none 0 0, .slice none 0 0, .slice none 0 0, .slice none 0 0] zeroC w3.heap.size rfl rfl rfl infoZC zeroSz zeroOne ?_)
  have hbn := Ve.below_n1 w3 (.cells zeroC 51)
  have hNn := heap_alloc_last w3 (.cells zeroC 51)
  obtain ⟨y4, hyn⟩ : ∃ y, w3.alloc (.cells zeroC 51) = y := ⟨_, rfl⟩
  rw [hyn] at hbn hNn ⊢
  clear hyn
  have HU4 := Lib.hid (HU3.out.trans (hbn.mono HU3.out.size))
  clear hbn hNn HU3
  go_wp2
  go_ret
  exact ⟨rfl, HU4.out⟩

end Go.Proofs.Ytfbppiamlolfpaa.Jb
