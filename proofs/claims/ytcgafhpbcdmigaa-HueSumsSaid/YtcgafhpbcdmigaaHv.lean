/- The contracts of how a number of light is shown, and of the document's own: what each returns, whatever the world; the world stays as it is. -/
import Derived.Test.YtcgafhpbcdmigaaWr
import Derived.Test.YtcgafhpbcdmigaaPh
namespace Go.Proofs.Ytcgafhpbcdmigaa.Hv
open Go.RowKit Go.Proofs.Ytcgafhpbcdmigaa Go.Proofs.Ytcgafhpbcdmigaa.Wa

theorem tone_any (x : Int) (w : World) : Calls Try.prog 28 #[.int .i64 x] w fun e w' => e = .returned (.int .i64 (Pl.tone x)) ∧ w = w' := by
  have HV := Lib.hid (show Pl.root (Pl.div (max x 0) (Pl.add (max x 0) 65536)) = Pl.tone x by rw [Pl.pos_max]; rfl)
  go_enter Try.func28, Try.ntmps28
  go_wp2_with (first | (go_at_call 44; refine (add_any _ _ _).mono ?_; rintro e w' ⟨rfl, rfl⟩) | (go_at_call 54; refine (div_any _ _ _).mono ?_; rintro e w' ⟨rfl, rfl⟩) | (go_at_call 57; refine (root_any _ _).mono ?_; rintro e w' ⟨rfl, rfl⟩))
  go_ret
  exact ⟨ret_int HV.out, rfl⟩

theorem rtone_any (x : Int) (w : World) : Calls Try.prog 29 #[.int .i64 x] w fun e w' => e = .returned (.int .i64 (Pl.tone x)) ∧ w = w' := by
  by_cases h : Pl.held x < 0
  · have HV := Lib.hid (show Pl.root (Pl.div 0 (Pl.add 0 65536)) = Pl.tone x by rw [← Pl.tone_held x]; unfold Pl.pos; rw [if_pos h]; rfl)
    go_enter Try.func29, Try.ntmps29
    go_wp2_with (first | (go_at_call 58; refine (held_any _ _).mono ?_; rintro e w' ⟨rfl, rfl⟩) | (go_at_call 45; refine (refAdd_any _ _ _).mono ?_; rintro e w' ⟨rfl, rfl⟩) | (go_at_call 55; refine (refDiv_any _ _ _).mono ?_; rintro e w' ⟨rfl, rfl⟩) | (go_at_call 59; refine (refRoot_any _ _).mono ?_; rintro e w' ⟨rfl, rfl⟩))
    go_ret
    exact ⟨ret_int HV.out, rfl⟩
  · have HV := Lib.hid (show Pl.root (Pl.div (Pl.held x) (Pl.add (Pl.held x) 65536)) = Pl.tone x by rw [← Pl.tone_held x]; unfold Pl.pos; rw [if_neg h]; rfl)
    go_enter Try.func29, Try.ntmps29
    go_wp2_with (first | (go_at_call 58; refine (held_any _ _).mono ?_; rintro e w' ⟨rfl, rfl⟩) | (go_at_call 45; refine (refAdd_any _ _ _).mono ?_; rintro e w' ⟨rfl, rfl⟩) | (go_at_call 55; refine (refDiv_any _ _ _).mono ?_; rintro e w' ⟨rfl, rfl⟩) | (go_at_call 59; refine (refRoot_any _ _).mono ?_; rintro e w' ⟨rfl, rfl⟩))
    go_ret
    exact ⟨ret_int HV.out, rfl⟩

theorem shade_any (y : Int) (w : World) : Calls Try.prog 30 #[.int .i64 y] w fun e w' => e = .returned (.int .u8 (Pl.shade y)) ∧ w = w' := by
  have u0 := Pl.unit_lo y
  have u1 := Pl.unit_hi y
  go_enter Try.func30, Try.ntmps30
  go_wp2_with (first | (go_at_call 32; refine (unit_any _ _).mono ?_; rintro e w' ⟨rfl, rfl⟩))
  go_ret
  exact ⟨rfl, rfl⟩

theorem rshade_any (y : Int) (w : World) : Calls Try.prog 31 #[.int .i64 y] w fun e w' => e = .returned (.int .u8 (Pl.shade y)) ∧ w = w' := by
  have u0 := Pl.unit_lo y
  have u1 := Pl.unit_hi y
  go_enter Try.func31, Try.ntmps31
  go_wp2_with (first | (go_at_call 33; refine (refUnit_any _ _).mono ?_; rintro e w' ⟨rfl, rfl⟩))
  go_ret
  exact ⟨rfl, rfl⟩
end Go.Proofs.Ytcgafhpbcdmigaa.Hv
