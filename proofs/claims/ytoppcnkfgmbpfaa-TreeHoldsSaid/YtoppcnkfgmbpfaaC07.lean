/- The contract of layer 2's each at products. -/
import Derived.Test.YtoppcnkfgmbpfaaC05
namespace Go.Proofs.Ytoppcnkfgmbpfaa.Ve
open Go.RowKit Go.Proofs.Ytoppcnkfgmbpfaa Go.Proofs.Ytoppcnkfgmbpfaa.Wa

set_option maxHeartbeats 800000 in
theorem each_mul (ax ay az bx by_ bz : Int) (w : World) :
    Calls Try.prog 73 #[V3 ax ay az, V3 bx by_ bz, .func (.func 47) #[] #[]] w fun e w' => e = .returned (V3 (Pl.mul ax bx) (Pl.mul ay by_) (Pl.mul az bz)) ∧ Below w.heap.size w w' := by
  go_enter Try.func73, Try.ntmps73
  go_wp2_with fail
  go_region_held3 (fun w' => w'.cell? ⟨w.heap.size, 0, none⟩ = some (.int .i64 ax) ∧ w'.cell? ⟨w.heap.size, 1, none⟩ = some (.int .i64 ay) ∧ w'.cell? ⟨w.heap.size, 2, none⟩ = some (.int .i64 az) ∧ w'.cell? ⟨w.heap.size + 1, 0, none⟩ = some (.int .i64 bx) ∧ w'.cell? ⟨w.heap.size + 1, 1, none⟩ = some (.int .i64 by_) ∧ w'.cell? ⟨w.heap.size + 1, 2, none⟩ = some (.int .i64 bz)) (go_keep) (first | (go_at_call 47; refine (mul_any _ _ _).mono ?_; rintro e w1 ⟨rfl, rfl⟩))
  go_wp2
  exact bodyPost_ret (v := V3 (Pl.mul ax bx) (Pl.mul ay by_) (Pl.mul az bz)) (by simp [results, Try.results73, go_sem]) rfl ⟨rfl, below3 _ _ _ _⟩

end Go.Proofs.Ytoppcnkfgmbpfaa.Ve

/- The contract of layer 2's each at ways between two. -/
namespace Go.Proofs.Ytoppcnkfgmbpfaa.Ve
open Go.RowKit Go.Proofs.Ytoppcnkfgmbpfaa Go.Proofs.Ytoppcnkfgmbpfaa.Wa

theorem mix1_any (x y t : Int) (p : Addr) (w : World) (hp : w.cell? p = some (.int .i64 t)) : Calls Try.prog 74 #[.int .i64 x, .int .i64 y, .pointer (some p)] w fun e w' => e = .returned (.int .i64 (Pl.lerp x y t)) ∧ w = w' := by
  go_enter Try.func74, Try.ntmps74
  go_wp2_with (go_at_call 75; refine (lerp_any _ _ _ _).mono ?_; rintro e w1 ⟨rfl, rfl⟩)
  go_ret
  exact ⟨rfl, rfl⟩

set_option maxHeartbeats 800000 in
theorem each_mix (ax ay az bx by_ bz : Int) (t : Int) (b : Nat) (w : World) (hb : b < w.heap.size) (hp : w.cell? ⟨b, 0, none⟩ = some (.int .i64 t)) :
    Calls Try.prog 73 #[V3 ax ay az, V3 bx by_ bz, .func (.func 74) #[] #[.pointer (some ⟨b, 0, none⟩)]] w fun e w' => e = .returned (V3 (Pl.lerp ax bx t) (Pl.lerp ay by_ t) (Pl.lerp az bz t)) ∧ Below w.heap.size w w' := by
  have hp3 := past3 hb hp
  clear hp
  go_enter Try.func73, Try.ntmps73
  go_wp2_with fail
  go_region_held3 (fun w' => w'.cell? ⟨w.heap.size, 0, none⟩ = some (.int .i64 ax) ∧ w'.cell? ⟨w.heap.size, 1, none⟩ = some (.int .i64 ay) ∧ w'.cell? ⟨w.heap.size, 2, none⟩ = some (.int .i64 az) ∧ w'.cell? ⟨w.heap.size + 1, 0, none⟩ = some (.int .i64 bx) ∧ w'.cell? ⟨w.heap.size + 1, 1, none⟩ = some (.int .i64 by_) ∧ w'.cell? ⟨w.heap.size + 1, 2, none⟩ = some (.int .i64 bz) ∧ w'.cell? ⟨b, 0, none⟩ = some (.int .i64 t)) (go_keep) (first | (go_at_call 74; refine (mix1_any _ _ t _ _ (by first | assumption | (simp [*]))).mono ?_; rintro e w1 ⟨rfl, rfl⟩))
  go_wp2
  exact bodyPost_ret (v := V3 (Pl.lerp ax bx t) (Pl.lerp ay by_ t) (Pl.lerp az bz t)) (by simp [results, Try.results73, go_sem]) rfl ⟨rfl, below3 _ _ _ _⟩

end Go.Proofs.Ytoppcnkfgmbpfaa.Ve
