/- The contract of the document's own word on which tracks may be. -/
import Derived.Test.YtfeihojobmagnaaTm
import Derived.Test.YtfeihojobmagnaaVg
namespace Go.Proofs.Ytfeihojobmagnaa.Tk
open Go.RowKit Go.Proofs.Ytfeihojobmagnaa Go.Proofs.Ytfeihojobmagnaa.Wa Go.Proofs.Ytfeihojobmagnaa.Ve

theorem below_draws {B : Nat} {w wr : World} (h : Below B w wr) (k : Nat) : Below B w (wr.drewN k) := ⟨h.os, h.tape, h.output, h.size, h.block⟩

theorem ret_bool' {a b : Bool} (h : a = b) : Ending.returned (.bool a) = .returned (.bool b) := by rw [h]

theorem held_same (x : Int) (h : -2147483648 ≤ x ∧ x ≤ 2147483648) (w : World) : Calls Try.prog 104 #[.int .i64 x] w fun e w' => e = .returned (.int .i64 x) ∧ w = w' := by
  have := held_any x w
  rwa [Pl.held_in h.1 h.2] at this

theorem held_is (x v : Int) (h : Pl.held x = v) (w : World) : Calls Try.prog 104 #[.int .i64 x] w fun e w' => e = .returned (.int .i64 v) ∧ w = w' := by
  subst h; exact held_any x w

theorem held_out {x : Int} (h : ¬ (-2147483648 ≤ x ∧ x ≤ 2147483648)) : ¬ x = Pl.held x := by
  have := Pl.held_lo x; have := Pl.held_hi x; omega

theorem mayB_no {t x y z : Int} (h : ¬ ((0 ≤ t ∧ t ≤ 2097152) ∧ (-2147483648 ≤ x ∧ x ≤ 2147483648) ∧ (-2147483648 ≤ y ∧ y ≤ 2147483648) ∧ (-2147483648 ≤ z ∧ z ≤ 2147483648))) : mayB t x y z = false := decide_eq_false h

end Go.Proofs.Ytfeihojobmagnaa.Tk
