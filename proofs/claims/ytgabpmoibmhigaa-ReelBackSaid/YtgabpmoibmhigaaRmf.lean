/- Layer 7: one question to both readers: the same answer, the same error, the same left. -/
import Derived.Test.YtgabpmoibmhigaaRme
import Derived.Test.YtgabpmoibmhigaaRle
import Derived.Deep.RegionHeld3
import Derived.StillTailTactics
namespace Go.Proofs.Ytgabpmoibmhigaa.Re
open Go.RowKit Go.Proofs.Ytgabpmoibmhigaa Go.Proofs.Ytgabpmoibmhigaa.Rp
set_option linter.unusedVariables false

/-- both readers, in memory that has not been touched ahead of block N -/
structure Two (p : Value) (gr B g N : Nat) (a : Option Addr) (n c : Nat) (lb : List UInt8) (s t : St) (w y : World) : Prop where
  bg : B ≤ g
  ng : N ≤ gr
  ne : g ≠ gr
  gl : gr < y.heap.size
  r : RP p gr B s y
  m : MAt g N a n c lb t y
  b : Below N w y

theorem Two.left {p : Value} {gr B g N : Nat} {a : Option Addr} {n c : Nat} {lb : List UInt8} {s s' t : St} {w y y' : World} (h : Two p gr B g N a n c lb s t w y) (hr : RP p gr B s' y') (ha : Aft gr y.heap.size y y') : Two p gr B g N a n c lb s' t w y' := by
  have h1 := h.m.err.2.2
  exact ⟨h.bg, h.ng, h.ne, Nat.lt_of_lt_of_le h.gl ha.size, hr, h.m.aft ha h.ne h.ng, h.b.trans (ha.below h.ng (by omega) (by omega))⟩
theorem Two.right {p : Value} {gr B g N : Nat} {a : Option Addr} {n c : Nat} {lb : List UInt8} {s t t' : St} {w y y' : World} (h : Two p gr B g N a n c lb s t w y) (hm : MAt g N a n c lb t' y') (ha : Aft g y.heap.size y y') : Two p gr B g N a n c lb s t' w y' := by
  have h1 := h.m.err.2.2
  exact ⟨h.bg, h.ng, h.ne, Nat.lt_of_lt_of_le h.gl ha.size, h.r.aft ha h.bg, hm, h.b.trans (ha.below h1.1 (by omega) (by omega))⟩
theorem Two.on {p : Value} {gr B g N : Nat} {a : Option Addr} {n c : Nat} {lb : List UInt8} {s t : St} {w y y' : World} (h : Two p gr B g N a n c lb s t w y) (hb : Below y.heap.size y y') : Two p gr B g N a n c lb s t w y' := by
  have h1 := h.m.err.2.2
  exact ⟨h.bg, h.ng, h.ne, Nat.lt_of_lt_of_le h.gl hb.size, h.r.new hb, h.m.on hb, h.b.trans (hb.mono (by omega))⟩

theorem tmod40 (x : Int) : IntKind.i64.wrap (Int.tmod x 40) = Int.tmod x 40 := by
  have h1 := Int.tmod_lt_of_pos x (show (0 : Int) < 40 by decide)
  have h2 : -40 < Int.tmod x 40 := by
    rcases Int.le_total 0 x with h | h
    · have := Int.tmod_nonneg (b := 40) h; omega
    · have := Int.tmod_lt_of_pos (-x) (show (0 : Int) < 40 by decide)
      rw [Int.neg_tmod] at this; omega
  generalize Int.tmod x 40 = y at h1 h2
  have e : IntKind.i64.wrap y = if 9223372036854775808 ≤ y % 18446744073709551616 then y % 18446744073709551616 - 18446744073709551616 else y % 18446744073709551616 := by simp [IntKind.wrap, IntKind.bits, IntKind.signed]
  rw [e]; split <;> omega

theorem Two.bsz {p : Value} {gr B g N : Nat} {a : Option Addr} {n c : Nat} {lb : List UInt8} {s t : St} {w y : World} (h : Two p gr B g N a n c lb s t w y) : B ≤ y.heap.size := by
  have h1 := h.m.err.2.2
  have h2 := h.bg
  omega

end Go.Proofs.Ytgabpmoibmhigaa.Re
