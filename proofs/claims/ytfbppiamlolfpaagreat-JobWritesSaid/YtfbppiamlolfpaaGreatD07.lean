/- Layer 7: the contracts of a reader's numbers. -/
import Derived.Test.YtfbppiamlolfpaaGreatD06
import Derived.Laws.Bits64b
namespace Go.Proofs.YtfbppiamlolfpaaGreat.Re
open Go.RowKit Go.Proofs.YtfbppiamlolfpaaGreat Go.Proofs.YtfbppiamlolfpaaGreat.Rp

theorem bs_cell {w : World} {a : Option Addr} {m c : Nat} {q : List UInt8} (h : Bs w (.slice a m c) q) {k : Nat} (hk : k < q.length) : ∃ ad, a = some ad ∧ w.cell? (ad.add k) = some (.int .u8 (q[k].toNat : Int)) := by
  rcases h with ⟨-, rfl⟩ | ⟨ad, cap, h, hc⟩
  · simp at hk
  · cases h; exact ⟨ad, rfl, hc k _ (by simp [vals, hk])⟩

theorem pow_le (k : Nat) (hk : k ≤ 8) : 256 ^ k ≤ 18446744073709551616 := by
  have := Nat.pow_le_pow_right (n := 256) (by omega) hk
  have e : 256 ^ 8 = 18446744073709551616 := by decide
  omega

theorem or_mul (a b i m : Nat) (hm : m = 2 ^ i) (h : a < m) : a ||| (b * m) = b * m + a := by
  subst hm
  rw [Nat.or_comm, ← Nat.shiftLeft_eq, Nat.shiftLeft_add_eq_or_of_lt h]

theorem or_step (x b k : Nat) (hk : k < 8) (hx : x < 256 ^ k) (hb : b < 256) : bits BinOp.or IntKind.u64 (x : Int) (IntKind.u64.wrap (IntKind.u64.wrap (b : Int) * 2 ^ (8 * k))) = ((x + 256 ^ k * b : Nat) : Int) ∧ x + 256 ^ k * b < 256 ^ (k + 1) := by
  have e1 : IntKind.u64.wrap (b : Int) = b := by rw [IntKind.wrap_u64]; omega
  have e2 : (2 : Int) ^ (8 * k) = ((256 ^ k : Nat) : Int) := by rw [Int.pow_mul]; simp
  have e3 : (256 : Nat) ^ k = 2 ^ (8 * k) := by rw [Nat.pow_mul]
  have hle := pow_le (k + 1) (by omega)
  have hlk := pow_le k (by omega)
  have hp : 0 < 256 ^ k := Nat.pow_pos (by omega)
  rw [Nat.pow_succ] at hle
  have hb2 : 256 ^ k * b ≤ 256 ^ k * 255 := Nat.mul_le_mul_left _ (by omega)
  have h2 : x + 256 ^ k * b < 256 ^ (k + 1) := by rw [Nat.pow_succ]; omega
  refine ⟨?_, h2⟩
  rw [e1, e2, ← Int.natCast_mul, IntKind.wrap_u64]
  have hbm : b * 256 ^ k = 256 ^ k * b := Nat.mul_comm _ _
  have e4 : ((b * 256 ^ k : Nat) : Int) % 18446744073709551616 = ((b * 256 ^ k : Nat) : Int) := by
    rw [Nat.pow_succ] at h2
    omega
  rw [e4, bits_or_u64_nat x (b * 256 ^ k) (by omega) (by rw [Nat.pow_succ] at h2; omega), or_mul x b (8 * k) _ e3 hx, hbm, Nat.add_comm]

set_option maxHeartbeats 1000000 in
theorem rnumber_any (p : Value) (g : Nat) {B : Nat} (s : St) (n : Nat) (hn : n ≤ 8) (w : World) (h : RP p g B s w) :
    Calls Tryz.prog 120 #[p, .int .i64 n] w fun e w' => e = .returned (.int .u64 (numS s n).1) ∧ RP p g B (numS s n).2 w' ∧ Aft g w.heap.size w w' := by
  have HV := Lib.hid (show numOf (takeS s n).1 = (numS s n).1 from rfl)
  have HS := Lib.hid (show (takeS s n).2 = (numS s n).2 from rfl)
  go_enter Tryz.func120, Tryz.ntmps120
  go_wp2_with fail
  refine (take_lit p g s n n rfl (by omega) _ h).mono ?_
  rintro e w1 ⟨⟨a, m, c, rfl, HM, hm, hbs⟩, hr, hA⟩
  obtain ⟨q, hq⟩ : ∃ q, q = (takeS s n).1 := ⟨_, rfl⟩
  rw [← hq] at HM hbs HV
  have HB := Lib.hid hbs
  clear hbs hq
  go_wp2_with fail
  go_loopw [5, 12] (fun v i wr => ∃ k : Nat, k ≤ m ∧ i = .int .i64 k ∧ wr = w1 ∧ ∃ x : Nat, v = .int .u64 x ∧ x < 256 ^ k ∧ Hid (x = numOf (q.take k))) (fun _ i _ => m - (intOf i).toNat)
  case atStart => exact ⟨0, Nat.zero_le _, rfl, rfl, 0, rfl, by simp, Lib.hid (by simp [numOf])⟩
  case round =>
    obtain ⟨k, hk, rfl, rfl, x, rfl, hx, HX⟩ := hrel
    by_cases hlt : k < m
    · have hlt' : (k : Int) < m := by omega
      have hkq : k < q.length := by have := HM.out; omega
      obtain ⟨ad, rfl, hc⟩ := bs_cell HB.out hkq
      obtain ⟨b, hb⟩ : ∃ b, b = q[k] := ⟨_, rfl⟩
      rw [← hb] at hc
      obtain ⟨o1, o2⟩ := or_step x b.toNat k (by omega) hx b.toNat_lt
      have HX2 := Lib.hid (show x + 256 ^ k * b.toNat = numOf (q.take (k + 1)) by
        rw [List.take_succ_eq_append_getElem hkq, numOf_snoc, ← HX.out, List.length_take, Nat.min_eq_left (by omega), ← hb])
      obtain ⟨y, hy⟩ : ∃ y, y = x + 256 ^ k * b.toNat := ⟨_, rfl⟩
      rw [← hy] at o1 o2 HX2
      clear hb hy
      go_wp2_with fail
      go_roundw
      case rel => exact ⟨k + 1, by omega, by go_num, trivial, y, rfl, o2, HX2⟩
      case measure => simp [intOf]; omega
    · obtain rfl : k = m := by omega
      go_wp2
      go_ret
      exact ⟨by rw [← HV.out, ← List.take_of_length_le (l := q) (i := k) (by have := HM.out; omega), ← HX.out]; rfl, hr, hA⟩
end Go.Proofs.YtfbppiamlolfpaaGreat.Re

/- Layer 7: the contracts of what a reader reads. -/
namespace Go.Proofs.YtfbppiamlolfpaaGreat.Re
open Go.RowKit Go.Proofs.YtfbppiamlolfpaaGreat Go.Proofs.YtfbppiamlolfpaaGreat.Rp

/-- the number that a reader takes, under a name of its own -/
theorem rnumber_lit (p : Value) (g : Nat) {B : Nat} (s : St) (x : Int) (n : Nat) (hx : x = n) (hn : n ≤ 8) (w : World) (h : RP p g B s w) :
    Calls Tryz.prog 120 #[p, .int .i64 x] w fun e w' => (∃ y : Nat, e = .returned (.int .u64 y) ∧ y < 256 ^ n ∧ Hid (y = (numS s n).1)) ∧ RP p g B (numS s n).2 w' ∧ Aft g w.heap.size w w' := by
  subst hx
  exact (rnumber_any p g s n hn w h).mono fun e w' ⟨h1, h2, h3⟩ => ⟨⟨_, h1, numS_lt s n, Lib.hid rfl⟩, h2, h3⟩

theorem rbyte_any (p : Value) (g : Nat) {B : Nat} (s : St) (w : World) (h : RP p g B s w) :
    Calls Tryz.prog 104 #[p] w fun e w' => e = .returned (.int .i64 (numS s 1).1) ∧ RP p g B (numS s 1).2 w' ∧ Aft g w.heap.size w w' := by
  go_enter Tryz.func104, Tryz.ntmps104
  go_wp2_with (go_at_call 120; refine (rnumber_lit p g s 1 1 rfl (by omega) _ h).mono ?_; rintro e w1 ⟨⟨y, rfl, hy, HY⟩, hr, hA⟩)
  go_ret
  exact ⟨by rw [← HY.out]; rfl, hr, hA⟩

theorem rhalf_any (p : Value) (g : Nat) {B : Nat} (s : St) (w : World) (h : RP p g B s w) :
    Calls Tryz.prog 105 #[p] w fun e w' => e = .returned (.int .i64 (numS s 2).1) ∧ RP p g B (numS s 2).2 w' ∧ Aft g w.heap.size w w' := by
  go_enter Tryz.func105, Tryz.ntmps105
  go_wp2_with (go_at_call 120; refine (rnumber_lit p g s 2 2 rfl (by omega) _ h).mono ?_; rintro e w1 ⟨⟨y, rfl, hy, HY⟩, hr, hA⟩)
  go_ret
  exact ⟨by rw [← HY.out]; rfl, hr, hA⟩

theorem rlong_any (p : Value) (g : Nat) {B : Nat} (s : St) (w : World) (h : RP p g B s w) :
    Calls Tryz.prog 107 #[p] w fun e w' => e = .returned (.int .u64 (numS s 8).1) ∧ RP p g B (numS s 8).2 w' ∧ Aft g w.heap.size w w' := by
  go_enter Tryz.func107, Tryz.ntmps107
  go_wp2_with (go_at_call 120; refine (rnumber_lit p g s 8 8 rfl (by omega) _ h).mono ?_; rintro e w1 ⟨⟨y, rfl, hy, HY⟩, hr, hA⟩)
  go_ret
  exact ⟨by rw [← HY.out]; rfl, hr, hA⟩

theorem wrap16_small (y : Nat) (hy : y < 256 ^ 2) : IntKind.i16.wrap (y : Int) = small16 y := by
  have e : IntKind.i16.wrap (y : Int) = if 32768 ≤ (y : Int) % 65536 then (y : Int) % 65536 - 65536 else (y : Int) % 65536 := by simp [IntKind.wrap, IntKind.bits, IntKind.signed]
  rw [e]; unfold small16; split <;> split <;> omega

theorem wrap64_fix (y : Nat) (hy : y < 256 ^ 5) : wrap64 ((y : Int) * 16777216) / 16777216 = sign40 y := by
  unfold sign40 wrap64
  split <;> omega

theorem fix_over {s : St} {y : Nat} {z : Int} (hy : y = (numS s 5).1) (hz : z = sign40 y) (h : z < -2147483648 ∨ 2147483648 < z) : fixS s = (0, failS (numS s 5).2 33) := by
  subst hz hy
  unfold fixS; rw [if_pos h]

theorem fix_in {s : St} {y : Nat} {z : Int} (hy : y = (numS s 5).1) (hz : z = sign40 y) (h : ¬ (z < -2147483648 ∨ 2147483648 < z)) : fixS s = (z, (numS s 5).2) := by
  subst hz hy
  unfold fixS; rw [if_neg h]

theorem rsmall_any (p : Value) (g : Nat) {B : Nat} (s : St) (w : World) (h : RP p g B s w) :
    Calls Tryz.prog 111 #[p] w fun e w' => e = .returned (.int .i64 (small16 (numS s 2).1)) ∧ RP p g B (numS s 2).2 w' ∧ Aft g w.heap.size w w' := by
  go_enter Tryz.func111, Tryz.ntmps111
  go_wp2_with (go_at_call 120; refine (rnumber_lit p g s 2 2 rfl (by omega) _ h).mono ?_; rintro e w1 ⟨⟨y, rfl, hy, HY⟩, hr, hA⟩; obtain ⟨z, hz, HZ⟩ : ∃ z, IntKind.i16.wrap (y : Int) = z ∧ Hid (z = small16 y) := ⟨_, wrap16_small y hy, Lib.hid rfl⟩; have hz2 : -32768 ≤ z ∧ z ≤ 32767 := by have h1 := HZ.out; unfold small16 at h1; split at h1 <;> omega)
  go_ret
  refine ⟨?_, hr, hA⟩
  rw [← HY.out, ← HZ.out]
  rfl

set_option maxHeartbeats 1000000 in
theorem rfix_any (p : Value) (g : Nat) {B : Nat} (s : St) (w : World) (h : RP p g B s w) :
    Calls Tryz.prog 106 #[p] w fun e w' => e = .returned (.int .i64 (fixS s).1) ∧ RP p g B (fixS s).2 w' ∧ Aft g w.heap.size w w' := by
  go_enter Tryz.func106, Tryz.ntmps106
  go_wp2_with (first | (go_at_call 120; refine (rnumber_lit p g s 5 5 rfl (by omega) _ h).mono ?_; rintro e w1 ⟨⟨y, rfl, hy, HY⟩, hr, hA⟩; obtain ⟨z, hz, HZ⟩ : ∃ z, wrap64 ((y : Int) * 16777216) / 16777216 = z ∧ Hid (z = sign40 y) := ⟨_, wrap64_fix y hy, Lib.hid rfl⟩; have hz2 : -549755813888 ≤ z ∧ z ≤ 549755813887 := by have h1 := HZ.out; unfold sign40 at h1; split at h1 <;> omega) | (go_at_call 78; refine (fail_any p g _ 33 _ hr).mono ?_; rintro e w2 ⟨rfl, hr2, ha2⟩; have hsz := hA.size))
  all_goals go_ret
  all_goals by_cases hov : z < -2147483648 ∨ 2147483648 < z
  all_goals first
    | (exfalso; omega)
    | (have hF := fix_over HY.out HZ.out hov; rw [hF]; exact ⟨rfl, hr2, hA.trans (ha2.mono hsz)⟩)
    | (have hF := fix_in HY.out HZ.out hov; rw [hF]; exact ⟨rfl, hr, hA⟩)
end Go.Proofs.YtfbppiamlolfpaaGreat.Re

/- Layer 7: the contracts of a reader's three numbers, points, lights. -/
namespace Go.Proofs.YtfbppiamlolfpaaGreat.Re
open Go.RowKit Go.Proofs.YtfbppiamlolfpaaGreat Go.Proofs.YtfbppiamlolfpaaGreat.Rp

/-- numbers in a block of their own -/
def Bk (b n : Nat) (f : Nat → Int) (w : World) : Prop :=
  b < w.heap.size ∧ (∀ j, j < n → w.cell? ⟨b, j, none⟩ = some (.int .i64 (f j))) ∧ ∀ j, w.frozen? ⟨b, j, none⟩ = false

theorem Bk.aft {b n g : Nat} {f : Nat → Int} {w w' : World} (h : Bk b n f w) (ha : Aft g w.heap.size w w') (hn : b ≠ g) : Bk b n f w' :=
  ⟨Nat.lt_of_lt_of_le h.1 ha.size, fun j hj => (ha.cell (p := ⟨b, j, none⟩) h.1 h.1 hn).trans (h.2.1 j hj), fun j => (ha.frozen (p := ⟨b, j, none⟩) h.1 h.1 hn).trans (h.2.2 j)⟩

theorem Bk.put {b n : Nat} {f : Nat → Int} {w : World} (h : Bk b n f w) {i : Nat} (hi : i < n) (x : Int) : Bk b n (fun j => if j = i then x else f j) (w.setCell ⟨b, i, none⟩ (.int .i64 x)) :=
  ⟨by simpa using h.1, fun j hj => by
    rw [cset (h.2.1 i hi)]
    by_cases e : j = i
    · simp only [if_pos e]
    · simp only [if_neg e]; exact h.2.1 j hj, fun j => by rw [World.frozen?_setCell]; exact h.2.2 j⟩

theorem Bk.far {b n c : Nat} {f : Nat → Int} {w : World} (h : Bk b n f w) (hn : b ≠ c) (i : Nat) (u : Value) : Bk b n f (w.setCell ⟨c, i, none⟩ u) :=
  ⟨by simpa using h.1, fun j hj => by rw [cfar hn]; exact h.2.1 j hj, fun j => by rw [World.frozen?_setCell]; exact h.2.2 j⟩

theorem Bk.congr {b n : Nat} {f f' : Nat → Int} {w : World} (h : Bk b n f w) (he : ∀ j, j < n → f j = f' j) : Bk b n f' w := ⟨h.1, fun j hj => by rw [← he j hj]; exact h.2.1 j hj, h.2.2⟩

theorem Bk.three {b : Nat} {f : Nat → Int} {w : World} (h : Bk b 3 f w) : w.cell? ⟨b, 0, none⟩ = some (.int .i64 (f 0)) ∧ w.cell? ⟨b, 1, none⟩ = some (.int .i64 (f 1)) ∧ w.cell? ⟨b, 2, none⟩ = some (.int .i64 (f 2)) ∧ w.frozen? ⟨b, 0, none⟩ = false ∧ w.frozen? ⟨b, 1, none⟩ = false ∧ w.frozen? ⟨b, 2, none⟩ = false :=
  ⟨h.2.1 0 (by omega), h.2.1 1 (by omega), h.2.1 2 (by omega), h.2.2 0, h.2.2 1, h.2.2 2⟩

theorem Bk.tri {b : Nat} {f : Nat → Int} {w : World} (h : Bk b 3 f w) (x y z : Int) :
    (w.setCell ⟨b, 0, none⟩ (.int .i64 x)).cell? ⟨b, 0, none⟩ = some (.int .i64 x) ∧
    ((w.setCell ⟨b, 0, none⟩ (.int .i64 x)).setCell ⟨b, 1, none⟩ (.int .i64 y)).cell? ⟨b, 1, none⟩ = some (.int .i64 y) ∧
    (((w.setCell ⟨b, 0, none⟩ (.int .i64 x)).setCell ⟨b, 1, none⟩ (.int .i64 y)).setCell ⟨b, 2, none⟩ (.int .i64 z)).cell? ⟨b, 2, none⟩ = some (.int .i64 z) := by
  have h0 := h.put (i := 0) (by omega) x
  have h1 := h0.put (i := 1) (by omega) y
  have h2 := h1.put (i := 2) (by omega) z
  exact ⟨h0.2.1 0 (by omega), h1.2.1 1 (by omega), h2.2.1 2 (by omega)⟩

theorem bk_new0 (w : World) (t t2 : TypeId) : Bk w.heap.size 3 (fun _ => 0) ((w.alloc (.cells #[.int .i64 0, .int .i64 0, .int .i64 0] t)).alloc (.cells #[.int .i64 0, .int .i64 0, .int .i64 0] t2)) :=
  ⟨by simp; omega, fun j hj => by
    match j, hj with
    | 0, _ => go_simp
    | 1, _ => go_simp
    | 2, _ => go_simp, fun j => by go_simp⟩

theorem bk_new1 (w : World) (t t2 : TypeId) : Bk (w.heap.size + 1) 3 (fun _ => 0) ((w.alloc (.cells #[.int .i64 0, .int .i64 0, .int .i64 0] t)).alloc (.cells #[.int .i64 0, .int .i64 0, .int .i64 0] t2)) :=
  ⟨by simp, fun j hj => by
    match j, hj with
    | 0, _ => go_simp
    | 1, _ => go_simp
    | 2, _ => go_simp, fun j => by go_simp⟩

theorem Aft.setNew {g base : Nat} {a w : World} (h : Aft g base a w) {b : Nat} (hb : a.heap.size ≤ b) (hB : base ≤ b) (j : Nat) (u : Value) : Aft g base a (w.setCell ⟨b, j, none⟩ u) :=
  ⟨h.os, h.tape, h.output, by simpa using h.size, fun k hk hw hn => by rw [Below.heap_setCell _ _ _ _ (by show k ≠ b; omega)]; exact h.block k hk hw hn,
    fun k cs t fr h1 h2 h3 => by
      have := lt_of_heap h3
      rw [Below.heap_setCell _ _ _ _ (by show k ≠ b; omega)]; exact h.other k cs t fr h1 h2 h3⟩

theorem rfix_lit (p : Value) (g : Nat) {B : Nat} (s : St) (k : Nat) (w : World) (h : RP p g B (fixK s k) w) :
    Calls Tryz.prog 106 #[p] w fun e w' => (∃ z, e = .returned (.int .i64 z) ∧ Hid (z = fixV s k)) ∧ RP p g B (fixK s (k + 1)) w' ∧ Aft g w.heap.size w w' :=
  (rfix_any p g (fixK s k) w h).mono fun _ _ ⟨h1, h2, h3⟩ => ⟨⟨_, h1, Lib.hid rfl⟩, h2, h3⟩

set_option maxHeartbeats 2000000 in
theorem three_any (p : Value) (g : Nat) {B : Nat} (s : St) (w : World) (h : RP p g B s w) (hg : g < w.heap.size) (hB : B ≤ w.heap.size) :
    Calls Tryz.prog 121 #[p] w fun e w' => e = .returned (V3 ((threeS s).1 0) ((threeS s).1 1) ((threeS s).1 2)) ∧ RP p g B (threeS s).2 w' ∧ Aft g w.heap.size w w' := by
  have HP := Lib.hid h
  clear h
  go_enter Tryz.func121, Tryz.ntmps121
  go_wp2_with fail
  go_loopw [6] (fun i wr => ∃ k : Nat, k ≤ 3 ∧ i = .int .i64 k ∧ Hid (RP p g B (fixK s k) wr) ∧ Aft g w.heap.size w wr ∧ Hid (Bk (w.heap.size + 1) 3 (fun j => if j < k then fixV s j else 0) wr) ∧ Hid (Bk w.heap.size 3 (fun _ => 0) wr)) (fun i _ => 3 - (intOf i).toNat)
  case atStart => exact ⟨0, by omega, rfl, Lib.hid (HP.out.new (below_n2 _ _ _)), Aft.of (below_n2 _ _ _), Lib.hid ((bk_new1 w _ _).congr (fun j _ => by simp)), Lib.hid (bk_new0 w _ _)⟩
  case round =>
    obtain ⟨k, hk, rfl, HR, hA, H1, H0⟩ := hrel
    by_cases hlt : k < 3
    · have hlt' : (k : Int) < 3 := by omega
      have hs1 := H1.out.1
      go_wp2_with fail
      refine (rfix_lit p g s k _ HR.out).mono ?_
      rintro e w1 ⟨⟨z, rfl, HZ⟩, hr1, ha1⟩
      have hs2 := ha1.size
      have hb1 := H1.out.aft ha1 (by omega)
      have hb0 := Lib.hid (H0.out.aft ha1 (by omega))
      have HR2 := Lib.hid ((hr1.set (b := w.heap.size + 1) (by omega) k (.int .i64 z)))
      have HB2 := Lib.hid ((hb1.put (i := k) hlt z).congr (f' := fun j => if j < k + 1 then fixV s j else 0) (fun j hj => by
        by_cases e : j = k
        · subst e; simp [HZ.out]
        · simp only [if_neg e]
          by_cases e2 : j < k
          · rw [if_pos e2, if_pos (by omega)]
          · rw [if_neg e2, if_neg (by omega)]))
      have HB0 := Lib.hid (hb0.out.far (c := w.heap.size + 1) (by omega) k (.int .i64 z))
      have hA2 := (hA.trans (ha1.mono hA.size)).setNew (b := w.heap.size + 1) (by omega) (by omega) k (.int .i64 z)
      have c0 := hb1.2.1 k hlt
      have f0 := hb1.2.2 k
      clear hb1 hr1 ha1
      go_wp2_with fail
      go_roundw
      case rel => exact ⟨k + 1, by omega, by go_num, HR2, hA2, HB2, HB0⟩
      case measure => simp [intOf]; omega
    · obtain rfl : k = 3 := by omega
      have hs1 := H1.out.1
      obtain ⟨t, ht⟩ : ∃ t, t = fixK s 3 := ⟨_, rfl⟩
      obtain ⟨o0, o1, o2, of0, of1, of2⟩ := H0.out.three
      obtain ⟨q0, q1, q2, -, -, -⟩ := (H1.out.congr (f' := fixV s) (fun j hj => if_pos hj)).three
      have HR3 := HR.out
      rw [← ht] at HR3
      by_cases he : t.2 = 0
      · have HV := Lib.hid (show threeS s = (fixV s, t) by unfold threeS; rw [← ht, if_neg (by simp [he])])
        clear ht
        obtain ⟨x0, hx0⟩ : ∃ x, x = fixV s 0 := ⟨_, rfl⟩
        obtain ⟨x1, hx1⟩ : ∃ x, x = fixV s 1 := ⟨_, rfl⟩
        obtain ⟨x2, hx2⟩ : ∃ x, x = fixV s 2 := ⟨_, rfl⟩
        rw [← hx0] at q0
        rw [← hx1] at q1
        rw [← hx2] at q2
        have HX := Lib.hid (And.intro hx0 (And.intro hx1 hx2))
        clear hx0 hx1 hx2
        have he' : (t.2 == 0) = true := by simpa using he
        clear he
        have hz := ((HR3.set (b := w.heap.size) hB 0 (.int .i64 x0)).set (b := w.heap.size) hB 1 (.int .i64 x1)).set (b := w.heap.size) hB 2 (.int .i64 x2)
        have hAz := ((hA.setNew (Nat.le_refl _) (Nat.le_refl _) 0 (.int .i64 x0)).setNew (Nat.le_refl _) (Nat.le_refl _) 1 (.int .i64 x1)).setNew (Nat.le_refl _) (Nat.le_refl _) 2 (.int .i64 x2)
        go_wp2_with (go_at_call 79; refine (err_any _ g t _ HR3).mono ?_; rintro e w9 ⟨rfl, rfl⟩)
        obtain ⟨e0, e1, e2⟩ := H0.out.tri x0 x1 x2
        refine bodyPost_ret (v := V3 x0 x1 x2) (by simp [results, Tryz.results121, go_sem, e0, e1, e2]) rfl ⟨?_, ?_, hAz⟩
        · rw [HV.out, HX.out.1, HX.out.2.1, HX.out.2.2]
        · rw [HV.out]; exact hz
      · have HV := Lib.hid (show threeS s = (fun _ => 0, t) by unfold threeS; rw [← ht, if_pos he])
        clear ht q0 q1 q2
        have he' : (t.2 == 0) = false := by simpa using he
        clear he
        have hz := ((HR3.set (b := w.heap.size) hB 0 (.int .i64 0)).set (b := w.heap.size) hB 1 (.int .i64 0)).set (b := w.heap.size) hB 2 (.int .i64 0)
        have hAz := ((hA.setNew (Nat.le_refl _) (Nat.le_refl _) 0 (.int .i64 0)).setNew (Nat.le_refl _) (Nat.le_refl _) 1 (.int .i64 0)).setNew (Nat.le_refl _) (Nat.le_refl _) 2 (.int .i64 0)
        go_wp2_with (go_at_call 79; refine (err_any _ g t _ HR3).mono ?_; rintro e w9 ⟨rfl, rfl⟩)
        obtain ⟨e0, e1, e2⟩ := H0.out.tri 0 0 0
        refine bodyPost_ret (v := V3 0 0 0) (by simp [results, Tryz.results121, go_sem, e0, e1, e2]) rfl ⟨?_, ?_, hAz⟩
        · rw [HV.out]
        · rw [HV.out]; exact hz

theorem three_lit (p : Value) (g : Nat) {B : Nat} (s : St) (w : World) (h : RP p g B s w) (hg : g < w.heap.size) (hB : B ≤ w.heap.size) :
    Calls Tryz.prog 121 #[p] w fun e w' => (∃ x y z, e = .returned (V3 x y z) ∧ Hid (x = (threeS s).1 0 ∧ y = (threeS s).1 1 ∧ z = (threeS s).1 2)) ∧ RP p g B (threeS s).2 w' ∧ Aft g w.heap.size w w' :=
  (three_any p g s w h hg hB).mono fun _ _ ⟨h1, h2, h3⟩ => ⟨⟨_, _, _, h1, Lib.hid ⟨rfl, rfl, rfl⟩⟩, h2, h3⟩

theorem set3 {g base : Nat} {a w : World} (h : Aft g base a w) {b : Nat} (hb : a.heap.size ≤ b) (hB : base ≤ b) (u0 u1 u2 : Value) : Aft g base a (((w.setCell ⟨b, 0, none⟩ u0).setCell ⟨b, 1, none⟩ u1).setCell ⟨b, 2, none⟩ u2) :=
  ((h.setNew hb hB 0 u0).setNew hb hB 1 u1).setNew hb hB 2 u2

theorem RP.set3 {p : Value} {g B : Nat} {s : St} {w : World} (h : RP p g B s w) {b : Nat} (hb : B ≤ b) (u0 u1 u2 : Value) : RP p g B s (((w.setCell ⟨b, 0, none⟩ u0).setCell ⟨b, 1, none⟩ u1).setCell ⟨b, 2, none⟩ u2) :=
  ((h.set hb 0 u0).set hb 1 u1).set hb 2 u2

theorem bk_one0 (w : World) (t : TypeId) : Bk w.heap.size 3 (fun _ => 0) (w.alloc (.cells #[.int .i64 0, .int .i64 0, .int .i64 0] t)) :=
  ⟨by simp, fun j hj => by
    match j, hj with
    | 0, _ => go_simp
    | 1, _ => go_simp
    | 2, _ => go_simp, fun j => by go_simp⟩

set_option maxHeartbeats 2000000 in
theorem rvec_any (p : Value) (g : Nat) {B : Nat} (s : St) (w : World) (h : RP p g B s w) (hg : g < w.heap.size) (hB : B ≤ w.heap.size) :
    Calls Tryz.prog 113 #[p] w fun e w' => e = .returned (V3 ((threeS s).1 0) ((threeS s).1 1) ((threeS s).1 2)) ∧ RP p g B (threeS s).2 w' ∧ Aft g w.heap.size w w' := by
  have HP := Lib.hid h
  have H0 := Lib.hid (bk_one0 w 94)
  clear h
  go_enter Tryz.func113, Tryz.ntmps113
  go_wp2_with fail
  refine (three_lit p g s _ (HP.out.new (below_n1 _ _)) (by simp; omega) (by simp; omega)).mono ?_
  rintro e w1 ⟨⟨x, y, z, rfl, HV⟩, hr1, ha1⟩
  have hs1 := ha1.size
  have HB := Lib.hid (H0.out.aft ha1 (by omega))
  have hA1 := (Aft.of (g := g) (base := w.heap.size) (below_n1 w _)).trans (ha1.mono (by simp))
  have hR := hr1.new (below_n1 w1 (.cells #[.int .i64 x, .int .i64 y, .int .i64 z] 195))
  have hA2 := hA1.alloc (.cells #[.int .i64 x, .int .i64 y, .int .i64 z] 195)
  have hB2 := HB.out.aft (Aft.of (g := g) (base := w1.heap.size) (below_n1 w1 (.cells #[.int .i64 x, .int .i64 y, .int .i64 z] 195))) (by omega)
  obtain ⟨o0, o1, o2, of0, of1, of2⟩ := hB2.three
  have HT := Lib.hid (hB2.tri x y z)
  have HR3 := Lib.hid (hR.set3 (b := w.heap.size) hB (.int .i64 x) (.int .i64 y) (.int .i64 z))
  have HA3 := Lib.hid (set3 hA2 (b := w.heap.size) (Nat.le_refl _) (Nat.le_refl _) (.int .i64 x) (.int .i64 y) (.int .i64 z))
  clear hA2 hR hB2 ha1 hr1 hA1
  go_wp2_with fail
  obtain ⟨e0, e1, e2⟩ := HT.out
  refine bodyPost_ret (v := V3 x y z) (by simp [results, Tryz.results113, go_sem, e0, e1, e2]) rfl ⟨?_, HR3.out, HA3.out⟩
  rw [HV.out.1, HV.out.2.1, HV.out.2.2]

set_option maxHeartbeats 2000000 in
theorem rhue_any (p : Value) (g : Nat) {B : Nat} (s : St) (w : World) (h : RP p g B s w) (hg : g < w.heap.size) (hB : B ≤ w.heap.size) :
    Calls Tryz.prog 108 #[p] w fun e w' => e = .returned (V3 ((threeS s).1 0) ((threeS s).1 1) ((threeS s).1 2)) ∧ RP p g B (threeS s).2 w' ∧ Aft g w.heap.size w w' := by
  have HP := Lib.hid h
  have H0 := Lib.hid (bk_one0 w 41)
  clear h
  go_enter Tryz.func108, Tryz.ntmps108
  go_wp2_with fail
  refine (three_lit p g s _ (HP.out.new (below_n1 _ _)) (by simp; omega) (by simp; omega)).mono ?_
  rintro e w1 ⟨⟨x, y, z, rfl, HV⟩, hr1, ha1⟩
  have hs1 := ha1.size
  have HB := Lib.hid (H0.out.aft ha1 (by omega))
  have hA1 := (Aft.of (g := g) (base := w.heap.size) (below_n1 w _)).trans (ha1.mono (by simp))
  have hR := hr1.new (below_n1 w1 (.cells #[.int .i64 x, .int .i64 y, .int .i64 z] 195))
  have hA2 := hA1.alloc (.cells #[.int .i64 x, .int .i64 y, .int .i64 z] 195)
  have hB2 := HB.out.aft (Aft.of (g := g) (base := w1.heap.size) (below_n1 w1 (.cells #[.int .i64 x, .int .i64 y, .int .i64 z] 195))) (by omega)
  obtain ⟨o0, o1, o2, of0, of1, of2⟩ := hB2.three
  have HT := Lib.hid (hB2.tri x y z)
  have HR3 := Lib.hid (hR.set3 (b := w.heap.size) hB (.int .i64 x) (.int .i64 y) (.int .i64 z))
  have HA3 := Lib.hid (set3 hA2 (b := w.heap.size) (Nat.le_refl _) (Nat.le_refl _) (.int .i64 x) (.int .i64 y) (.int .i64 z))
  clear hA2 hR hB2 ha1 hr1 hA1
  go_wp2_with fail
  obtain ⟨e0, e1, e2⟩ := HT.out
  refine bodyPost_ret (v := V3 x y z) (by simp [results, Tryz.results108, go_sem, e0, e1, e2]) rfl ⟨?_, HR3.out, HA3.out⟩
  rw [HV.out.1, HV.out.2.1, HV.out.2.2]
end Go.Proofs.YtfbppiamlolfpaaGreat.Re
