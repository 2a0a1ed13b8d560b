/- Layer 7: the contracts of what a reader reads. -/
import Derived.Test.YtgkfoiekminfmaaReg
namespace Go.Proofs.Ytgkfoiekminfmaa.Re
open Go.RowKit Go.Proofs.Ytgkfoiekminfmaa Go.Proofs.Ytgkfoiekminfmaa.Rp

/-- the number that a reader takes, under a name of its own -/
theorem rnumber_lit (p : Value) (g : Nat) {B : Nat} (s : St) (x : Int) (n : Nat) (hx : x = n) (hn : n ≤ 8) (w : World) (h : RP p g B s w) :
    Calls Try.prog 76 #[p, .int .i64 x] w fun e w' => (∃ y : Nat, e = .returned (.int .u64 y) ∧ y < 256 ^ n ∧ Hid (y = (numS s n).1)) ∧ RP p g B (numS s n).2 w' ∧ Aft g w.heap.size w w' := by
  subst hx
  exact (rnumber_any p g s n hn w h).mono fun e w' ⟨h1, h2, h3⟩ => ⟨⟨_, h1, numS_lt s n, Lib.hid rfl⟩, h2, h3⟩

theorem rhalf_any (p : Value) (g : Nat) {B : Nat} (s : St) (w : World) (h : RP p g B s w) :
    Calls Try.prog 73 #[p] w fun e w' => e = .returned (.int .i64 (numS s 2).1) ∧ RP p g B (numS s 2).2 w' ∧ Aft g w.heap.size w w' := by
  go_enter Try.func73, Try.ntmps73
  go_wp2_with (go_at_call 76; refine (rnumber_lit p g s 2 2 rfl (by omega) _ h).mono ?_; rintro e w1 ⟨⟨y, rfl, hy, HY⟩, hr, hA⟩)
  go_ret
  exact ⟨by rw [← HY.out]; rfl, hr, hA⟩

theorem wrap16_small (y : Nat) (hy : y < 256 ^ 2) : IntKind.i16.wrap (y : Int) = small16 y := by
  have e : IntKind.i16.wrap (y : Int) = if 32768 ≤ (y : Int) % 65536 then (y : Int) % 65536 - 65536 else (y : Int) % 65536 := by simp [IntKind.wrap, IntKind.bits, IntKind.signed]
  rw [e]; unfold small16; split <;> split <;> omega

theorem wrap64_fix (y : Nat) (hy : y < 256 ^ 5) : wrap64 ((y : Int) * 16777216) / 16777216 = sign40 y := by
  unfold sign40 wrap64
  split <;> omega

theorem fix_over {s : St} {y : Nat} {z : Int} (hy : y = (numS s 5).1) (hz : z = sign40 y) (h : z < -2147483648 ∨ 2147483648 < z) : fixS s = (0, failS (numS s 5).2 33) := by
  subst hz hy
  unfold fixS; rw [if_pos h]

theorem fix_in {s : St} {y : Nat} {z : Int} (hy : y = (numS s 5).1) (hz : z = sign40 y) (h : ¬ (z < -2147483648 ∨ 2147483648 < z)) : fixS s = (z, (numS s 5).2) := by
  subst hz hy
  unfold fixS; rw [if_neg h]

theorem rsmall_any (p : Value) (g : Nat) {B : Nat} (s : St) (w : World) (h : RP p g B s w) :
    Calls Try.prog 70 #[p] w fun e w' => e = .returned (.int .i64 (small16 (numS s 2).1)) ∧ RP p g B (numS s 2).2 w' ∧ Aft g w.heap.size w w' := by
  go_enter Try.func70, Try.ntmps70
  go_wp2_with (go_at_call 76; refine (rnumber_lit p g s 2 2 rfl (by omega) _ h).mono ?_; rintro e w1 ⟨⟨y, rfl, hy, HY⟩, hr, hA⟩; obtain ⟨z, hz, HZ⟩ : ∃ z, IntKind.i16.wrap (y : Int) = z ∧ Hid (z = small16 y) := ⟨_, wrap16_small y hy, Lib.hid rfl⟩; have hz2 : -32768 ≤ z ∧ z ≤ 32767 := by have h1 := HZ.out; unfold small16 at h1; split at h1 <;> omega)
  go_ret
  refine ⟨?_, hr, hA⟩
  rw [← HY.out, ← HZ.out]
  rfl

set_option maxHeartbeats 1000000 in
theorem rfix_any (p : Value) (g : Nat) {B : Nat} (s : St) (w : World) (h : RP p g B s w) :
    Calls Try.prog 66 #[p] w fun e w' => e = .returned (.int .i64 (fixS s).1) ∧ RP p g B (fixS s).2 w' ∧ Aft g w.heap.size w w' := by
  go_enter Try.func66, Try.ntmps66
  go_wp2_with (first | (go_at_call 76; refine (rnumber_lit p g s 5 5 rfl (by omega) _ h).mono ?_; rintro e w1 ⟨⟨y, rfl, hy, HY⟩, hr, hA⟩; obtain ⟨z, hz, HZ⟩ : ∃ z, wrap64 ((y : Int) * 16777216) / 16777216 = z ∧ Hid (z = sign40 y) := ⟨_, wrap64_fix y hy, Lib.hid rfl⟩; have hz2 : -549755813888 ≤ z ∧ z ≤ 549755813887 := by have h1 := HZ.out; unfold sign40 at h1; split at h1 <;> omega) | (go_at_call 61; refine (fail_any p g _ 33 _ hr).mono ?_; rintro e w2 ⟨rfl, hr2, ha2⟩; have hsz := hA.size))
  all_goals go_ret
  all_goals by_cases hov : z < -2147483648 ∨ 2147483648 < z
  all_goals first
    | (exfalso; omega)
    | (have hF := fix_over HY.out HZ.out hov; rw [hF]; exact ⟨rfl, hr2, hA.trans (ha2.mono hsz)⟩)
    | (have hF := fix_in HY.out HZ.out hov; rw [hF]; exact ⟨rfl, hr, hA⟩)
end Go.Proofs.Ytgkfoiekminfmaa.Re
