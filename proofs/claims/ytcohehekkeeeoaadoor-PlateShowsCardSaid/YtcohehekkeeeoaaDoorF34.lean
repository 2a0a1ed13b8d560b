/- The contracts of how a light is shown as bytes, of the document's own, and of the document's examples. -/
import Derived.Test.YtcohehekkeeeoaaDoorF33
import Derived.Test.YtcohehekkeeeoaaDoorF08
import Derived.ChangeKeysEq
namespace Go.Proofs.YtcohehekkeeeoaaDoor.Hv
open Go.RowKit Go.Proofs.YtcohehekkeeeoaaDoor Go.Proofs.YtcohehekkeeeoaaDoor.Wa Go.Proofs.YtcohehekkeeeoaaDoor.Ve

/-- three bytes as a value -/
abbrev B3 (x y z : Int) : Value := .agg #[.int .u8 x, .int .u8 y, .int .u8 z]

/-- how a light is shown -/
abbrev show3 (x y z : Int) : Value := B3 (Pl.shade (Pl.tone x)) (Pl.shade (Pl.tone y)) (Pl.shade (Pl.tone z))

set_option maxHeartbeats 800000 in
theorem show_any (x y z : Int) (w : World) :
    Calls Tryd.prog 34 #[V3 x y z] w fun e w' => e = .returned (show3 x y z) ∧ Below w.heap.size w w' := by
  go_enter Tryd.func34, Tryd.ntmps34
  go_wp2_with fail
  go_region_held3 (fun w' => w'.cell? ⟨w.heap.size, 0, none⟩ = some (.int .i64 x) ∧ w'.cell? ⟨w.heap.size, 1, none⟩ = some (.int .i64 y) ∧ w'.cell? ⟨w.heap.size, 2, none⟩ = some (.int .i64 z)) (go_keep) (first | (go_at_call 57; refine (tone_any _ _).mono ?_; rintro e w1 ⟨rfl, rfl⟩) | (go_at_call 42; refine (shade_any _ _).mono ?_; rintro e w1 ⟨rfl, rfl⟩))
  go_wp2
  exact bodyPost_ret (v := show3 x y z) (by simp [results, Tryd.results34, go_sem]) rfl ⟨rfl, (below_n2 _ _ _).drew⟩

set_option maxHeartbeats 2000000 in
theorem rshow_any (x y z : Int) (w : World) :
    Calls Tryd.prog 46 #[V3 x y z] w fun e w' => e = .returned (show3 x y z) ∧ Below w.heap.size w w' := by
  go_enter Tryd.func46, Tryd.ntmps46
  go_wp2
  refine wp_loop_rounds 4 ?_
  rw [rounds_succ]
  go_wp2_with (first | (go_at_call 65; refine (rtone_any _ _).mono ?_; rintro e w1 ⟨rfl, rfl⟩) | (go_at_call 51; refine (rshade_any _ _).mono ?_; rintro e w1 ⟨rfl, rfl⟩))
  rw [rounds_succ]
  go_wp2_with (first | (go_at_call 65; refine (rtone_any _ _).mono ?_; rintro e w1 ⟨rfl, rfl⟩) | (go_at_call 51; refine (rshade_any _ _).mono ?_; rintro e w1 ⟨rfl, rfl⟩))
  rw [rounds_succ]
  go_wp2_with (first | (go_at_call 65; refine (rtone_any _ _).mono ?_; rintro e w1 ⟨rfl, rfl⟩) | (go_at_call 51; refine (rshade_any _ _).mono ?_; rintro e w1 ⟨rfl, rfl⟩))
  rw [rounds_succ]
  go_wp2
  exact bodyPost_ret (v := show3 x y z) (by simp [results, Tryd.results46, go_sem]) rfl ⟨rfl, below_n3 _ _ _ _⟩

theorem infoByte : (Tryd.prog.info? 5).map (fun i => (i.zero, i.size, i.bytes)) = some (some (.int .u8 0), 1, 1) := by kernel_rfl

theorem cellsByte : Tryd.prog.cellsOf 5 = 1 := by kernel_rfl

theorem eq_b3 (x y z : Int) (W : World) : (Op.equalIn 10000 69 (.agg #[.int .u8 x, .int .u8 y, .int .u8 z]) (.agg #[.int .u8 x, .int .u8 y, .int .u8 z])).run Tryd.prog W = .ok true W := by
  obtain ⟨i0, hi, hz0, hz1, hz2⟩ := info_parts infoByte
  rw [run_equalIn_array W 9999 _ _ Tryd.underlying69 hi, cellsByte]
  simp only [show List.range 3 = [0, 1, 2] from rfl, Op.eqItems, Sem.run_bind]
  simp [go_sem]

theorem ex_show (w : World) : Calls Tryd.prog 34 #[V3 0 0 0] w fun e w' => e = .returned (B3 0 0 0) ∧ Below w.heap.size w w' := by
  have := show_any 0 0 0 w
  unfold show3 at this
  rwa [Pl.tone_zero, Pl.shade_zero] at this

theorem ex_tone (w : World) : Calls Tryd.prog 57 #[.int .i64 65536] w fun e w' => e = .returned (.int .i64 46340) ∧ w = w' := by
  have := tone_any 65536 w
  rwa [Pl.tone_one] at this

theorem ex_shade (w : World) : Calls Tryd.prog 42 #[.int .i64 65536] w fun e w' => e = .returned (.int .u8 255) ∧ w = w' := by
  have := shade_any 65536 w
  rwa [Pl.shade_one] at this

end Go.Proofs.YtcohehekkeeeoaaDoor.Hv
