/- The walk of WaveBounds: the law returns true, whatever turn comes in; the world stays as it is. -/
import Derived.Test.YtohnjhnfhmfiiaaWv
import Derived.OpenShut
namespace Go.Proofs.Ytohnjhnfhmfiiaa.waveBoundsW
open Go.RowKit Go.Proofs.Ytohnjhnfhmfiiaa Go.Proofs.Ytohnjhnfhmfiiaa.Wa Go.Proofs.Ytohnjhnfhmfiiaa.Wv

theorem walk (a : Int) (w0 : (Lit.int .u32 a).wf = true) (w : World) :
    Calls Try.prog 8 #[.int .u32 a] w fun e w' => e = .returned (.bool true) ∧ Below w.heap.size w w' := by
  have ⟨u0, u1⟩ : 0 ≤ a ∧ a ≤ 4294967295 := by
    have := Go.bounds_u32 w0
    omega
  have t0 : 0 ≤ a / 4 := by omega
  have t1 : a / 4 ≤ 1073741824 := by omega
  have ⟨s0, s1⟩ := Pl.sin_bd (a / 4)
  have ⟨c0, c1⟩ := Pl.cos_bd (a / 4)
  have e1 : Pl.sin (a / 4 + 32768) = -Pl.sin (a / 4) := Pl.sin_half t0 t1
  have e2 : Pl.sin (a / 4 + 65536) = Pl.sin (a / 4) := Pl.sin_turn (by omega) (by omega) (by omega) (by omega) (by omega)
  have e3 : Pl.sin (a / 4 - 458752) = Pl.sin (a / 4) := Pl.sin_turn (by omega) (by omega) (by omega) (by omega) (by omega)
  go_enter Try.func8, Try.ntmps8
  go_wp2_with (first | (go_at_call 37; refine (awake_any _).mono ?_; rintro e w1 ⟨rfl, rfl⟩) | (go_at_call 38; refine (sin_any _ _).mono ?_; rintro e w1 ⟨rfl, rfl⟩) | (go_at_call 40; refine (cos_any _ _).mono ?_; rintro e w1 ⟨rfl, rfl⟩))
  go_ret
  exact ⟨rfl, Below.refl _ _⟩
end Go.Proofs.Ytohnjhnfhmfiiaa.waveBoundsW
