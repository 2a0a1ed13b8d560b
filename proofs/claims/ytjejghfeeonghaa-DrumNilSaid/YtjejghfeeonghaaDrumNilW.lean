/- DrumNil: the walk. -/
import Derived.Test.YtjejghfeeonghaaDrf
namespace Go.Proofs.Ytjejghfeeonghaa.drumNilW
open Go Go.RowKit Go.Maps Go.Proofs.Ytjejghfeeonghaa Go.Proofs.Ytjejghfeeonghaa.Au Go.Proofs.Ytjejghfeeonghaa.Re Go.Proofs.Ytjejghfeeonghaa.Dr
set_option linter.unusedVariables false
set_option linter.unusedSimpArgs false

set_option maxHeartbeats 4000000 in
set_option maxRecDepth 100000 in
theorem walk (k : Int) (w : World) : Calls Try.prog 5 #[.int .i64 k] w fun e w' => e = .returned (.bool true) ∧ Below w.heap.size w w' := by
  have hzv := zeroV
  have hzs := ZB_size
  go_enter Try.func5, Try.ntmps5
  go_wp2_with fail
  refine (read_nil k w).mono ?_
  rintro e y1 ⟨rfl, hb1⟩
  have HU1 := Lib.hid hb1
  have HI := Lib.hid (infoTB ZB_size)
  have HO := Lib.hid ZB_one
  have HAL := Lib.hid (heap_alloc_last y1 (.cells ZB 36))
  clear hb1
  go_upto_region 3 with (refine Au.wpList_store_row rfl 36 (.tmp 4) (.tmp 10) rfl (y1.alloc (.cells ZB 36)) ZB ZB y1.heap.size 36 HAL.out rfl rfl HI.out rfl HO.out ?_)
  have hbn := Ve.below_n1 y1 (.cells ZB 36)
  have HUx := below_setRow (g := y1.heap.size) hbn (Nat.le_refl _) ZB
  obtain ⟨y2, hy2⟩ : ∃ y, (y1.alloc (.cells ZB 36)).setRow y1.heap.size ZB = y := ⟨_, rfl⟩
  rw [hy2] at HUx ⊢
  have HU2 := Lib.hid (HU1.out.trans (HUx.mono HU1.out.size))
  clear hy2 hbn HUx HAL
  go_wp2_with fail
  refine (awake_any y2).mono ?_
  rintro e y3 ⟨rfl, hb3⟩
  have HU3 := Lib.hid (HU2.out.trans (hb3.mono HU2.out.size))
  clear hb3
  go_wp2_with fail
  refine (write_nil k zB zB_len y3).mono ?_
  rintro e y4 ⟨rfl, hb4⟩
  have HU4 := Lib.hid (HU3.out.trans (hb4.mono HU3.out.size))
  clear hb4
  go_wp2_with fail
  refine (sync_nil y4).mono ?_
  rintro e ww ⟨rfl, rfl⟩
  go_wp2_with fail
  refine (fuse_nil k y4).mono ?_
  rintro e ww ⟨rfl, rfl⟩
  go_wp2_with fail
  have hb5 := Ve.below_n1 y4 (.cells #[.int .i64 k] 3)
  refine (crash_nil _ _).mono ?_
  rintro e ww ⟨rfl, rfl⟩
  obtain ⟨y5, hy5⟩ : ∃ y, y4.alloc (.cells #[.int .i64 k] 3) = y := ⟨_, rfl⟩
  rw [hy5] at hb5 ⊢
  have HU5 := Lib.hid (HU4.out.trans (hb5.mono HU4.out.size))
  clear hb5 hy5
  go_wp2_with fail
  refine (blocks_nil y5).mono ?_
  rintro e ww ⟨rfl, rfl⟩
  go_wp2_with fail
  refine (loose_nil y5).mono ?_
  rintro e ww ⟨rfl, rfl⟩
  go_wp2_with fail
  refine (steps_nil y5).mono ?_
  rintro e ww ⟨rfl, rfl⟩
  go_wp2_with fail
  refine (down_nil y5).mono ?_
  rintro e ww ⟨rfl, rfl⟩
  go_wp2
  go_ret
  exact ⟨rfl, HU5.out⟩

end Go.Proofs.Ytjejghfeeonghaa.drumNilW
