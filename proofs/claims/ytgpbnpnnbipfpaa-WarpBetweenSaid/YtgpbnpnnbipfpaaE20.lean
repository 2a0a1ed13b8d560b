/- The contract of layer 5's each at ways between two. -/
import Derived.Test.YtgpbnpnnbipfpaaE12
namespace Go.Proofs.Ytgpbnpnnbipfpaa.He
open Go.RowKit Go.Proofs.Ytgpbnpnnbipfpaa Go.Proofs.Ytgpbnpnnbipfpaa.Wa Go.Proofs.Ytgpbnpnnbipfpaa.Ve

theorem hmix1_any (x y t : Int) (p : Addr) (w : World) (hp : w.cell? p = some (.int .i64 t)) : Calls Try.prog 37 #[.int .i64 x, .int .i64 y, .pointer (some p)] w fun e w' => e = .returned (.int .i64 (Pl.lerp x y t)) ∧ w = w' := by
  go_enter Try.func37, Try.ntmps37
  go_wp2_with (go_at_call 38; refine (lerp_any _ _ _ _).mono ?_; rintro e w1 ⟨rfl, rfl⟩)
  go_ret
  exact ⟨rfl, rfl⟩

set_option maxHeartbeats 800000 in
theorem heach_mix (ax ay az bx by_ bz : Int) (t : Int) (b : Nat) (w : World) (hb : b < w.heap.size) (hp : w.cell? ⟨b, 0, none⟩ = some (.int .i64 t)) :
    Calls Try.prog 36 #[V3 ax ay az, V3 bx by_ bz, .func (.func 37) #[] #[.pointer (some ⟨b, 0, none⟩)]] w fun e w' => e = .returned (V3 (Pl.lerp ax bx t) (Pl.lerp ay by_ t) (Pl.lerp az bz t)) ∧ Below w.heap.size w w' := by
  have hp3 := past3 hb hp
  clear hp
  go_enter Try.func36, Try.ntmps36
  go_wp2_with fail
  go_region_held3 (fun w' => w'.cell? ⟨w.heap.size, 0, none⟩ = some (.int .i64 ax) ∧ w'.cell? ⟨w.heap.size, 1, none⟩ = some (.int .i64 ay) ∧ w'.cell? ⟨w.heap.size, 2, none⟩ = some (.int .i64 az) ∧ w'.cell? ⟨w.heap.size + 1, 0, none⟩ = some (.int .i64 bx) ∧ w'.cell? ⟨w.heap.size + 1, 1, none⟩ = some (.int .i64 by_) ∧ w'.cell? ⟨w.heap.size + 1, 2, none⟩ = some (.int .i64 bz) ∧ w'.cell? ⟨b, 0, none⟩ = some (.int .i64 t)) (go_keep) (first | (go_at_call 37; refine (hmix1_any _ _ t _ _ (by first | assumption | (simp [*]))).mono ?_; rintro e w1 ⟨rfl, rfl⟩))
  go_wp2
  exact bodyPost_ret (v := V3 (Pl.lerp ax bx t) (Pl.lerp ay by_ t) (Pl.lerp az bz t)) (by simp [results, Try.results36, go_sem]) rfl ⟨rfl, below3 _ _ _ _⟩

end Go.Proofs.Ytgpbnpnnbipfpaa.He
