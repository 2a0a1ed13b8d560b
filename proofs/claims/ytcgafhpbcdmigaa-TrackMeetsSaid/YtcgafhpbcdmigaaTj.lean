/- CompactFunc: of two keys whose times are not the same both stay. -/
import Derived.Test.YtcgafhpbcdmigaaTo
namespace Go.Proofs.Ytcgafhpbcdmigaa.Tn
open Go.RowKit Go.Proofs.Ytcgafhpbcdmigaa Go.Proofs.Ytcgafhpbcdmigaa.Wa Go.Proofs.Ytcgafhpbcdmigaa.Ve Go.Proofs.Ytcgafhpbcdmigaa.Tk Go.Proofs.Ytcgafhpbcdmigaa.Ls

set_option maxHeartbeats 2000000 in
set_option maxRecDepth 100000 in
theorem compact_any (g cap : Nat) (f : Nat → Int) (w : World) (hr : Row2 g f w) (hne : ¬ f 4 = f 0) :
    Calls Try.prog 77 #[.slice (some ⟨g, 0, none⟩) 2 cap, .func (.func 78) #[] #[]] w fun e w' => e = .returned (.slice (some ⟨g, 0, none⟩) 2 cap) ∧ Below w.heap.size w w' := by
  obtain ⟨hg, hc, hf⟩ := hr
  have c0 := hc 0 (by omega)
  have c1 := hc 1 (by omega)
  have c2 := hc 2 (by omega)
  have c3 := hc 3 (by omega)
  have c4 := hc 4 (by omega)
  have c5 := hc 5 (by omega)
  have c6 := hc 6 (by omega)
  have c7 := hc 7 (by omega)
  clear hc hf
  have w0 : IntKind.i64.wrap 0 = 0 := by decide
  have w1 : IntKind.i64.wrap (1 - 1) = 0 := by decide
  go_enter Try.func77, Try.ntmps77
  go_wp2
  refine wp_loop_rounds 2 ?_
  rw [rounds_succ]
  go_wp2_with fail
  go_region_held3 (fun w' => w'.cell? ⟨g, 0, none⟩ = some (.int .i64 (f 0)) ∧ w'.cell? ⟨g, 1, none⟩ = some (.int .i64 (f 1)) ∧ w'.cell? ⟨g, 2, none⟩ = some (.int .i64 (f 2)) ∧ w'.cell? ⟨g, 3, none⟩ = some (.int .i64 (f 3)) ∧ w'.cell? ⟨g, 4, none⟩ = some (.int .i64 (f 4)) ∧ w'.cell? ⟨g, 5, none⟩ = some (.int .i64 (f 5)) ∧ w'.cell? ⟨g, 6, none⟩ = some (.int .i64 (f 6)) ∧ w'.cell? ⟨g, 7, none⟩ = some (.int .i64 (f 7))) (first | (go_keep; done) | (go_split_ands; (try dsimp only); exact ⟨held_on hbn (by assumption), held_on hbn (by assumption), held_on hbn (by assumption), held_on hbn (by assumption), held_on hbn (by assumption), held_on hbn (by assumption), held_on hbn (by assumption), held_on hbn (by assumption)⟩)) (first | (go_at_call 78; refine (same_no _ _ _ _ _ _ _ _ hne _).mono ?_; rintro e w9 ⟨rfl, hbn⟩))
  go_wp2
  rw [rounds_succ]
  go_wp2
  go_ret
  exact ⟨rfl, by first | exact hbn | exact (Below.refl _ _).drew.trans (hbn.mono (by simp))⟩
end Go.Proofs.Ytcgafhpbcdmigaa.Tn
