/- Layer 7: the contract of a reader's end. -/
import Derived.Test.YtgkfoiekminfmaaRej
import Derived.Shelf.Strconv.Itoa0
namespace Go.Proofs.Ytgkfoiekminfmaa.Re
open Go.RowKit Go.Proofs.Ytgkfoiekminfmaa Go.Proofs.Ytgkfoiekminfmaa.Rp

theorem end_any (p : Value) (g : Nat) {B : Nat} (s : St) (w : World) (h : RP p g B s w) :
    Calls Try.prog 42 #[p] w fun e w' => e = .returned (.int .i64 (endS s).2) ∧ RP p g B (endS s) w' ∧ Aft g w.heap.size w w' := by
  by_cases hl : 0 < leftS s
  · have HE := Lib.hid (show endS s = failS s 10 by unfold endS; rw [if_pos hl])
    go_enter Try.func42, Try.ntmps42
    go_wp2_with (go_at_call 60; refine (left_any _ g s _ h).mono ?_; rintro e w9 ⟨rfl, rfl⟩)
    refine (fail_any p g s 10 _ h).mono ?_
    rintro e w1 ⟨rfl, hr, ha⟩
    go_wp2_with (go_at_call 62; refine (err_any _ g _ _ hr).mono ?_; rintro e w8 ⟨rfl, rfl⟩)
    go_ret
    exact ⟨by rw [HE.out]; rfl, by rw [HE.out]; exact hr, ha⟩
  · have HE := Lib.hid (show endS s = s by unfold endS; rw [if_neg hl])
    go_enter Try.func42, Try.ntmps42
    go_wp2_with (first | (go_at_call 60; refine (left_any _ g s _ h).mono ?_; rintro e w9 ⟨rfl, rfl⟩) | (go_at_call 62; refine (err_any _ g s _ h).mono ?_; rintro e w8 ⟨rfl, rfl⟩))
    go_ret
    exact ⟨by rw [HE.out]; rfl, by rw [HE.out]; exact h, Aft.refl _ _ _⟩

end Go.Proofs.Ytgkfoiekminfmaa.Re
