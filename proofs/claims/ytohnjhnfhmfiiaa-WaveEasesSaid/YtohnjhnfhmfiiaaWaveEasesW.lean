/- The walk of WaveEases: the law returns true, whatever number comes in; the world stays as it is. -/
import Derived.Test.YtohnjhnfhmfiiaaWv
namespace Go.Proofs.Ytohnjhnfhmfiiaa.waveEasesW
open Go.RowKit Go.Proofs.Ytohnjhnfhmfiiaa Go.Proofs.Ytohnjhnfhmfiiaa.Wa Go.Proofs.Ytohnjhnfhmfiiaa.Wv

theorem unit_eased (t : Int) (w : World) : Calls Try.prog 50 #[.int .i64 (Pl.ease t)] w fun e w' => e = .returned (.int .i64 (Pl.ease t)) ∧ w = w' := by
  have := unit_any (Pl.ease t) w
  rwa [Pl.unit_ease] at this

theorem walk (a : Int) (_w0 : (Lit.int .i64 a).wf = true) (w : World) :
    Calls Try.prog 9 #[.int .i64 a] w fun e w' => e = .returned (.bool true) ∧ Below w.heap.size w w' := by
  have ⟨b0, b1⟩ := Pl.ease_bd a
  have s1 : Pl.ease 0 = 0 := by decide +kernel
  have s2 : Pl.ease 65536 = 65536 := by decide +kernel
  go_enter Try.func9, Try.ntmps9
  go_wp2_with (first | (go_at_call 37; refine (awake_any _).mono ?_; rintro e w1 ⟨rfl, rfl⟩) | (go_at_call 48; refine (ease_any _ _).mono ?_; rintro e w1 ⟨rfl, rfl⟩) | (go_at_call 49; refine (rease_any _ _).mono ?_; rintro e w1 ⟨rfl, rfl⟩) | (go_at_call 50; refine (unit_eased a _).mono ?_; rintro e w1 ⟨rfl, rfl⟩))
  go_ret
  exact ⟨rfl, Below.refl _ _⟩
end Go.Proofs.Ytohnjhnfhmfiiaa.waveEasesW
