/- The walk of HueShows: the law returns true, whatever light and whatever number come in; nothing that was there is written. -/
import Derived.Test.YtcgafhpbcdmigaaHs
import Derived.Test.YtcgafhpbcdmigaaHf
import Derived.Test.YtcgafhpbcdmigaaHk
import Derived.Deep.DeepCutAuto
namespace Go.Proofs.Ytcgafhpbcdmigaa.hueShowsW
open Go.RowKit Go.Proofs.Ytcgafhpbcdmigaa Go.Proofs.Ytcgafhpbcdmigaa.Wa Go.Proofs.Ytcgafhpbcdmigaa.Ve Go.Proofs.Ytcgafhpbcdmigaa.He Go.Proofs.Ytcgafhpbcdmigaa.Hv

set_option maxHeartbeats 4000000 in
set_option maxRecDepth 100000 in
theorem walk (x y z t : Int) (w : World) :
    Calls Try.prog 5 #[V3 x y z, .int .i64 t] w fun e w' => e = .returned (.bool true) ∧ Below w.heap.size w w' := by
  have heq := eq_b3
  have hbk := below_n1 w (.cells #[.int .i64 x, .int .i64 y, .int .i64 z] 23)
  go_enter Try.func5, Try.ntmps5
  go_wp2_with fail
  go_region_held3 (fun w' => w'.cell? ⟨w.heap.size, 0, none⟩ = some (.int .i64 x) ∧ w'.cell? ⟨w.heap.size, 1, none⟩ = some (.int .i64 y) ∧ w'.cell? ⟨w.heap.size, 2, none⟩ = some (.int .i64 z)) (first | (go_keep; done) | (go_split_ands; (try dsimp only); exact ⟨held_on hbn (by assumption), held_on hbn (by assumption), held_on hbn (by assumption)⟩)) (first | (go_at_call 10; refine (awake_any _).mono ?_; rintro e w9 ⟨rfl, hbn⟩; (first | (replace hbk := hbk.trans (hbn.mono hbk.size)) | (replace hbk := hbk.drew.trans (hbn.mono hbk.drew.size)))) | (go_at_call 9; refine (hto_any _ _ _ _).mono ?_; rintro e w9 ⟨rfl, hbn⟩; (first | (replace hbk := hbk.trans (hbn.mono hbk.size)) | (replace hbk := hbk.drew.trans (hbn.mono hbk.drew.size)))) | (go_at_call 26; refine (show_any _ _ _ _).mono ?_; rintro e w9 ⟨rfl, hbn⟩; (first | (replace hbk := hbk.trans (hbn.mono hbk.size)) | (replace hbk := hbk.drew.trans (hbn.mono hbk.drew.size)))) | (go_at_call 27; refine (rshow_any _ _ _ _).mono ?_; rintro e w9 ⟨rfl, hbn⟩; (first | (replace hbk := hbk.trans (hbn.mono hbk.size)) | (replace hbk := hbk.drew.trans (hbn.mono hbk.drew.size)))) | (go_at_call 28; refine (tone_any _ _).mono ?_; rintro e w9 ⟨rfl, rfl⟩) | (go_at_call 29; refine (rtone_any _ _).mono ?_; rintro e w9 ⟨rfl, rfl⟩) | (go_at_call 30; refine (shade_any _ _).mono ?_; rintro e w9 ⟨rfl, rfl⟩) | (go_at_call 31; refine (rshade_any _ _).mono ?_; rintro e w9 ⟨rfl, rfl⟩))
  go_wp2
  go_ret
  exact ⟨rfl, hbk⟩
end Go.Proofs.Ytcgafhpbcdmigaa.hueShowsW
