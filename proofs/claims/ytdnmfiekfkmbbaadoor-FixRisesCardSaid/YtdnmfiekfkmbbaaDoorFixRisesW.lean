/- The walk of FixRises: the law returns true, whatever five numbers come in; nothing that was there is written. -/
import Derived.Test.YtdnmfiekfkmbbaaDoorWk
namespace Go.Proofs.YtdnmfiekfkmbbaaDoor.fixRisesW
open Go.RowKit Go.Proofs.YtdnmfiekfkmbbaaDoor Go.Proofs.YtdnmfiekfkmbbaaDoor.Wa

theorem facts (x y b t k : Int) (h : x ≤ y) (hk : 0 ≤ k) : Pl.lerp x b t ≤ Pl.lerp y b t ∧ Pl.lerp b x t ≤ Pl.lerp b y t ∧ Pl.mul x k ≤ Pl.mul y k ∧ Pl.add x b ≤ Pl.add y b :=
  ⟨Pl.lerp_mono_left h b t, Pl.lerp_mono_right h b t, Pl.mul_mono h hk, Pl.add_mono h b⟩
theorem between (x b t : Int) : Pl.held (min x b) ≤ Pl.lerp x b t ∧ Pl.lerp x b t ≤ Pl.held (max x b) ∧ Pl.held (min x b) ≤ Pl.lerp b x t ∧ Pl.lerp b x t ≤ Pl.held (max x b) := by
  have := Pl.lerp_between x b t
  have := Pl.lerp_between b x t
  rcases Int.le_total x b with h | h
  · have := Pl.held_mono h
    rw [Int.min_eq_left h, Int.max_eq_right h]; omega
  · have := Pl.held_mono h
    rw [Int.min_eq_right h, Int.max_eq_left h]; omega

theorem walk (a b c t s : Int) (_w0 : (Lit.int .i64 a).wf = true) (_w1 : (Lit.int .i64 b).wf = true) (_w2 : (Lit.int .i64 c).wf = true) (_w3 : (Lit.int .i64 t).wf = true) (_w4 : (Lit.int .i64 s).wf = true) (w : World) :
    Calls Tryd.prog 8 #[.int .i64 a, .int .i64 b, .int .i64 c, .int .i64 t, .int .i64 s] w fun e w' => e = .returned (.bool true) ∧ Below w.heap.size w w' := by
  have ⟨k0, _⟩ := and_mask62 s
  have ⟨f1, f2, f3, f4⟩ := facts (min a c) (max a c) b t _ (by omega) k0
  have ⟨g1, g2, g3, g4⟩ := between (min a c) b t
  rw [show min (min a c) b = min a (min c b) by omega] at g1 g3
  go_enter Tryd.func8, Tryd.ntmps8
  go_wp2_with (first | (go_at_call 31; refine (lerp_any _ _ _ _).mono ?_; rintro e w1 ⟨rfl, rfl⟩) | (go_at_call 12; refine (clamp_any _ _).mono ?_; rintro e w1 ⟨rfl, rfl⟩) | (go_at_call 22; refine (mul_any _ _ _).mono ?_; rintro e w1 ⟨rfl, rfl⟩) | (go_at_call 15; refine (add_any _ _ _).mono ?_; rintro e w1 ⟨rfl, rfl⟩) | (go_at_call 11; refine (awake_any _).mono ?_; rintro e w1 ⟨rfl, hb1⟩))
  go_ret
  exact ⟨rfl, hb1⟩
end Go.Proofs.YtdnmfiekfkmbbaaDoor.fixRisesW
