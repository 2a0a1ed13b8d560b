/- The walk of HueRises: the law returns true, whatever two numbers come in; nothing that was there is written. -/
import Derived.Test.YtcgafhpbcdmigaaHs
namespace Go.Proofs.Ytcgafhpbcdmigaa.hueRisesW
open Go.RowKit Go.Proofs.Ytcgafhpbcdmigaa Go.Proofs.Ytcgafhpbcdmigaa.Wa Go.Proofs.Ytcgafhpbcdmigaa.Hv

theorem walk (a b : Int) (_w0 : (Lit.int .i64 a).wf = true) (_w1 : (Lit.int .i64 b).wf = true) (w : World) :
    Calls Try.prog 6 #[.int .i64 a, .int .i64 b] w fun e w' => e = .returned (.bool true) ∧ Below w.heap.size w w' := by
  have ⟨s0, s1⟩ := Pl.tone_bd (min a b)
  have ⟨t0, t1⟩ := Pl.tone_bd (max a b)
  have m1 := Pl.tone_mono (show min a b ≤ max a b by omega)
  have m2 := Pl.shade_mono m1
  have ⟨b0, b1⟩ := Pl.shade_bd (Pl.tone (min a b))
  have ⟨c0, c1⟩ := Pl.shade_bd (Pl.tone (max a b))
  go_enter Try.func6, Try.ntmps6
  go_wp2_with (first | (go_at_call 10; refine (awake_any _).mono ?_; rintro e w1 ⟨rfl, hb1⟩) | (go_at_call 28; refine (tone_any _ _).mono ?_; rintro e w1 ⟨rfl, rfl⟩) | (go_at_call 30; refine (shade_any _ _).mono ?_; rintro e w1 ⟨rfl, rfl⟩) | (go_at_call 32; refine (unit_any _ _).mono ?_; rintro e w1 ⟨rfl, rfl⟩) | (go_at_call 33; refine (refUnit_any _ _).mono ?_; rintro e w1 ⟨rfl, rfl⟩))
  go_ret
  exact ⟨rfl, hb1⟩
end Go.Proofs.Ytcgafhpbcdmigaa.hueRisesW
