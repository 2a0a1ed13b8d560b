/- Layer 7: the contract of a reader's next bytes. -/
import Derived.Test.YtplcbdmiccpnnaaGreatC04
import Derived.Laws.Bits64b
namespace Go.Proofs.YtplcbdmiccpnnaaGreat.Re
open Go.RowKit Go.Proofs.YtplcbdmiccpnnaaGreat Go.Proofs.YtplcbdmiccpnnaaGreat.Rp

theorem take_err (p : Value) (g : Nat) {B : Nat} (s : St) (n : Nat) (w : World) (h : RP p g B s w) (he : s.2 ≠ 0) :
    Calls Tryz.prog 93 #[p, .int .i64 n] w fun e w' => e = .returned (.slice none 0 0) ∧ w' = w := by
  have he' : (s.2 == 0) = false := by simpa using he
  clear he
  go_enter Tryz.func93, Tryz.ntmps93
  go_wp2_with (go_at_call 39; refine (err_any _ g s _ h).mono ?_; rintro e w9 ⟨rfl, rfl⟩)
  go_ret
  exact ⟨rfl, rfl⟩

theorem take_short (g : Nat) {B : Nat} (l : List UInt8) (n : Nat) (_hn : n ≤ 9223372036854775807) (w : World) (h : RAt g B (l, 0) w) (hs : l.length < n) :
    Calls Tryz.prog 93 #[.pointer (some ⟨g, 0, none⟩), .int .i64 n] w fun e w' => e = .returned (.slice none 0 0) ∧ RAt g B (l, 9) w' ∧ Aft g w.heap.size w w' := by
  have HP : RP (.pointer (some ⟨g, 0, none⟩)) g B (l, 0) w := .inr ⟨rfl, h⟩
  obtain ⟨h1, hB, h2, h3, v, h4, h5⟩ := h
  obtain ⟨a, c, rfl⟩ := left_form h5
  have hs' : (l.length : Int) < n := by omega
  clear h5 h3
  go_enter Tryz.func93, Tryz.ntmps93
  go_wp2_with (first | (go_at_call 39; refine (err_any _ g (l, 0) _ HP).mono ?_; rintro e w9 ⟨rfl, rfl⟩) | (go_at_call 38; refine (fail_any _ g (l, 0) 9 _ HP).mono ?_; rintro e w9 ⟨rfl, hw9, ha9⟩))
  go_ret
  refine ⟨rfl, ?_, ha9⟩
  rcases hw9 with ⟨h, -⟩ | ⟨-, h⟩
  · cases h
  · exact h

theorem take_nil (g : Nat) {B : Nat} (w : World) (h : RAt g B ([], 0) w) (h0 : w.cell? ⟨g, 0, none⟩ = some (.slice none 0 0)) :
    Calls Tryz.prog 93 #[.pointer (some ⟨g, 0, none⟩), .int .i64 0] w fun e w' => e = .returned (.slice none 0 0) ∧ RAt g B ([], 0) w' ∧ Aft g w.heap.size w w' := by
  have HP : RP (.pointer (some ⟨g, 0, none⟩)) g B ([], 0) w := .inr ⟨rfl, h⟩
  have HS := Lib.hid (h.setLeft (v := .slice none 0 0) (l2 := []) (.inl ⟨rfl, rfl⟩))
  have hf := h.2.2.1 0
  clear h
  go_enter Tryz.func93, Tryz.ntmps93
  go_wp2_with (go_at_call 39; refine (err_any _ g ([], 0) _ HP).mono ?_; rintro e w9 ⟨rfl, rfl⟩)
  go_ret
  exact ⟨rfl, HS.out, (Aft.refl _ _ _).setCell _ _⟩

theorem left_at {g B b k cap : Nat} {l : List UInt8} {e : Int} {w : World} (h : RAt g B (l, e) w) (h0 : w.cell? ⟨g, 0, none⟩ = some (.slice (some ⟨b, k, none⟩) l.length cap)) : l.length ≤ cap ∧ b ≠ g ∧ b < B ∧ ∀ j u, (vals l)[j]? = some u → w.cell? ⟨b, k + j, none⟩ = some u := by
  obtain ⟨-, -, -, -, v, h4, h5⟩ := h
  rw [h0] at h4
  cases h4
  rcases h5 with ⟨h, -⟩ | ⟨b', k', cap', h, h1⟩
  · cases h
  · cases h; exact h1

theorem vals_drop (l : List UInt8) (n : Nat) : vals (l.drop n) = (vals l).drop n := by simp [vals, List.map_drop]

theorem vals_take (l : List UInt8) (n : Nat) : vals (l.take n) = (vals l).take n := by simp [vals, List.map_take]

theorem left_drop {g B b k cap : Nat} {l : List UInt8} {w : World} (n : Nat) (h1 : b ≠ g) (h2 : b < B) (hc : l.length ≤ cap) (hn : n ≤ l.length) (h3 : ∀ j u, (vals l)[j]? = some u → w.cell? ⟨b, k + j, none⟩ = some u) : LeftIs g B (.slice (some ⟨b, k + n, none⟩) (l.length - n) (cap - n)) (l.drop n) w :=
  .inr ⟨b, k + n, cap - n, by rw [List.length_drop], by rw [List.length_drop]; omega, h1, h2, fun j u hu => by
    rw [vals_drop, List.getElem?_drop] at hu
    rw [Nat.add_assoc]; exact h3 _ u hu⟩

theorem left_all {g B b k : Nat} {l : List UInt8} {w : World} (n : Nat) (h1 : b ≠ g) (h2 : b < B) (hn : l.length ≤ n) : LeftIs g B (.slice (some ⟨b, k, none⟩) 0 0) (l.drop n) w :=
  .inr ⟨b, k, 0, by rw [List.length_drop, Nat.sub_eq_zero_of_le hn], by rw [List.length_drop]; omega, h1, h2, fun j u hu => by
    rw [List.drop_eq_nil_of_le hn] at hu; simp [vals] at hu⟩

theorem took_bs {b k cap : Nat} {l : List UInt8} {w : World} (n : Nat) (hn : n ≤ l.length) (h3 : ∀ j u, (vals l)[j]? = some u → w.cell? ⟨b, k + j, none⟩ = some u) : Bs w (.slice (some ⟨b, k, none⟩) n cap) (l.take n) :=
  .inr ⟨_, cap, by rw [List.length_take, Nat.min_eq_left hn], fun j u hu => by
    rw [vals_take, List.getElem?_take] at hu
    split at hu
    · rw [Addr.add_mid]; exact h3 j u hu
    · cases hu⟩

theorem take_some (g b k cap : Nat) {B : Nat} (l : List UInt8) (n : Nat) (w : World) (h : RAt g B (l, 0) w) (h0 : w.cell? ⟨g, 0, none⟩ = some (.slice (some ⟨b, k, none⟩) l.length cap)) (hn : n ≤ l.length) :
    Calls Tryz.prog 93 #[.pointer (some ⟨g, 0, none⟩), .int .i64 n] w fun e w' => e = .returned (.slice (some ⟨b, k, none⟩) n cap) ∧ Bs w' (.slice (some ⟨b, k, none⟩) n cap) (l.take n) ∧ RAt g B (l.drop n, 0) w' ∧ Aft g w.heap.size w w' := by
  have HP : RP (.pointer (some ⟨g, 0, none⟩)) g B (l, 0) w := .inr ⟨rfl, h⟩
  have HR := Lib.hid h
  have hf := h.2.2.1 0
  obtain ⟨hc, k1, k2, k3⟩ := left_at h h0
  have HT : ∀ v : Value, Bs (w.setCell ⟨g, 0, none⟩ v) (.slice (some ⟨b, k, none⟩) n cap) (l.take n) := fun v => took_bs n hn (fun j u hu => by rw [cfar k1]; exact k3 j u hu)
  have HT2 := Lib.hid HT
  clear HT
  by_cases hcn : cap = n
  · have HL := Lib.hid (HR.out.setLeft (left_all (k := k) (l := l) n k1 k2 (by omega)))
    obtain ⟨L, hL⟩ : ∃ L, L = l.length := ⟨_, rfl⟩
    rw [← hL] at h0 hc hn
    subst hcn
    clear h hL k3
    go_enter Tryz.func93, Tryz.ntmps93
    go_wp2_with (go_at_call 39; refine (err_any _ g (l, 0) _ HP).mono ?_; rintro e w9 ⟨rfl, rfl⟩)
    go_ret
    exact ⟨rfl, HT2.out _, HL.out, (Aft.refl _ _ _).setCell _ _⟩
  · have HL := Lib.hid (HR.out.setLeft (left_drop (k := k) (l := l) n k1 k2 hc hn k3))
    obtain ⟨L, hL⟩ : ∃ L, L = l.length := ⟨_, rfl⟩
    rw [← hL] at h0 hc hn HL
    clear h hL k3
    go_enter Tryz.func93, Tryz.ntmps93
    go_wp2_with (go_at_call 39; refine (err_any _ g (l, 0) _ HP).mono ?_; rintro e w9 ⟨rfl, rfl⟩)
    go_ret
    exact ⟨rfl, HT2.out _, HL.out, (Aft.refl _ _ _).setCell _ _⟩

/-- the next bytes, whatever the reader -/
theorem take_any (p : Value) (g : Nat) {B : Nat} (s : St) (n : Nat) (hn : n ≤ 9223372036854775807) (w : World) (h : RP p g B s w) :
    Calls Tryz.prog 93 #[p, .int .i64 n] w fun e w' => (∃ a c, e = .returned (.slice a (takeS s n).1.length c) ∧ Bs w' (.slice a (takeS s n).1.length c) (takeS s n).1) ∧ RP p g B (takeS s n).2 w' ∧ Aft g w.heap.size w w' := by
  by_cases he : s.2 = 0
  · rcases id h with ⟨rfl, rfl⟩ | ⟨rfl, hR⟩
    · simp at he
    · obtain ⟨l, e⟩ := s
      simp only at he
      subst he
      by_cases hs : l.length < n
      · rw [takeS_short hs]
        exact (take_short g l n hn w hR hs).mono fun e w' ⟨he, h1, h2⟩ => ⟨⟨none, 0, he, .inl ⟨rfl, rfl⟩⟩, .inr ⟨rfl, h1⟩, h2⟩
      · rw [takeS_ok (by omega)]
        obtain ⟨h1, hB, h2, h3, v, h4, h5⟩ := id hR
        rcases h5 with ⟨rfl, rfl⟩ | ⟨b, k, cap, rfl, -⟩
        · obtain rfl : n = 0 := by simp at hs; exact hs
          exact (take_nil g w hR h4).mono fun e w' ⟨he, h1, h2⟩ => ⟨⟨none, 0, he, .inl ⟨rfl, rfl⟩⟩, .inr ⟨rfl, h1⟩, h2⟩
        · refine (take_some g b k cap l n w hR h4 (by omega)).mono fun e w' ⟨he, h1, h2, h3⟩ => ⟨⟨some ⟨b, k, none⟩, cap, ?_, ?_⟩, .inr ⟨rfl, h2⟩, h3⟩
          · rw [he, List.length_take, Nat.min_eq_left (by omega)]
          · rw [List.length_take, Nat.min_eq_left (by omega)]; exact h1
  · obtain ⟨l, e⟩ := s
    rw [takeS_err n he]
    exact (take_err p g (l, e) n w h he).mono fun e w' ⟨he, h1⟩ => ⟨⟨none, 0, he, .inl ⟨rfl, rfl⟩⟩, by rw [h1]; exact h, by rw [h1]; exact Aft.refl _ _ _⟩

theorem take_lit (p : Value) (g : Nat) {B : Nat} (s : St) (x : Int) (n : Nat) (hx : x = n) (hn : n ≤ 9223372036854775807) (w : World) (h : RP p g B s w) :
    Calls Tryz.prog 93 #[p, .int .i64 x] w fun e w' => (∃ a m c, e = .returned (.slice a m c) ∧ Hid (m = (takeS s n).1.length) ∧ m ≤ n ∧ Bs w' (.slice a m c) (takeS s n).1) ∧ RP p g B (takeS s n).2 w' ∧ Aft g w.heap.size w w' := by
  subst hx
  exact (take_any p g s n hn w h).mono fun e w' ⟨⟨a, c, h1, h2⟩, h3, h4⟩ => ⟨⟨a, _, c, h1, Lib.hid rfl, takeS_len s n, h2⟩, h3, h4⟩
end Go.Proofs.YtplcbdmiccpnnaaGreat.Re

/- Layer 7: the contracts of a reader's numbers. -/
namespace Go.Proofs.YtplcbdmiccpnnaaGreat.Re
open Go.RowKit Go.Proofs.YtplcbdmiccpnnaaGreat Go.Proofs.YtplcbdmiccpnnaaGreat.Rp

theorem bs_cell {w : World} {a : Option Addr} {m c : Nat} {q : List UInt8} (h : Bs w (.slice a m c) q) {k : Nat} (hk : k < q.length) : ∃ ad, a = some ad ∧ w.cell? (ad.add k) = some (.int .u8 (q[k].toNat : Int)) := by
  rcases h with ⟨-, rfl⟩ | ⟨ad, cap, h, hc⟩
  · simp at hk
  · cases h; exact ⟨ad, rfl, hc k _ (by simp [vals, hk])⟩

theorem pow_le (k : Nat) (hk : k ≤ 8) : 256 ^ k ≤ 18446744073709551616 := by
  have := Nat.pow_le_pow_right (n := 256) (by omega) hk
  have e : 256 ^ 8 = 18446744073709551616 := by decide
  omega

theorem or_mul (a b i m : Nat) (hm : m = 2 ^ i) (h : a < m) : a ||| (b * m) = b * m + a := by
  subst hm
  rw [Nat.or_comm, ← Nat.shiftLeft_eq, Nat.shiftLeft_add_eq_or_of_lt h]

theorem or_step (x b k : Nat) (hk : k < 8) (hx : x < 256 ^ k) (hb : b < 256) : bits BinOp.or IntKind.u64 (x : Int) (IntKind.u64.wrap (IntKind.u64.wrap (b : Int) * 2 ^ (8 * k))) = ((x + 256 ^ k * b : Nat) : Int) ∧ x + 256 ^ k * b < 256 ^ (k + 1) := by
  have e1 : IntKind.u64.wrap (b : Int) = b := by rw [IntKind.wrap_u64]; omega
  have e2 : (2 : Int) ^ (8 * k) = ((256 ^ k : Nat) : Int) := by rw [Int.pow_mul]; simp
  have e3 : (256 : Nat) ^ k = 2 ^ (8 * k) := by rw [Nat.pow_mul]
  have hle := pow_le (k + 1) (by omega)
  have hlk := pow_le k (by omega)
  have hp : 0 < 256 ^ k := Nat.pow_pos (by omega)
  rw [Nat.pow_succ] at hle
  have hb2 : 256 ^ k * b ≤ 256 ^ k * 255 := Nat.mul_le_mul_left _ (by omega)
  have h2 : x + 256 ^ k * b < 256 ^ (k + 1) := by rw [Nat.pow_succ]; omega
  refine ⟨?_, h2⟩
  rw [e1, e2, ← Int.natCast_mul, IntKind.wrap_u64]
  have hbm : b * 256 ^ k = 256 ^ k * b := Nat.mul_comm _ _
  have e4 : ((b * 256 ^ k : Nat) : Int) % 18446744073709551616 = ((b * 256 ^ k : Nat) : Int) := by
    rw [Nat.pow_succ] at h2
    omega
  rw [e4, bits_or_u64_nat x (b * 256 ^ k) (by omega) (by rw [Nat.pow_succ] at h2; omega), or_mul x b (8 * k) _ e3 hx, hbm, Nat.add_comm]

set_option maxHeartbeats 1000000 in
theorem rnumber_any (p : Value) (g : Nat) {B : Nat} (s : St) (n : Nat) (hn : n ≤ 8) (w : World) (h : RP p g B s w) :
    Calls Tryz.prog 85 #[p, .int .i64 n] w fun e w' => e = .returned (.int .u64 (numS s n).1) ∧ RP p g B (numS s n).2 w' ∧ Aft g w.heap.size w w' := by
  have HV := Lib.hid (show numOf (takeS s n).1 = (numS s n).1 from rfl)
  have HS := Lib.hid (show (takeS s n).2 = (numS s n).2 from rfl)
  go_enter Tryz.func85, Tryz.ntmps85
  go_wp2_with fail
  refine (take_lit p g s n n rfl (by omega) _ h).mono ?_
  rintro e w1 ⟨⟨a, m, c, rfl, HM, hm, hbs⟩, hr, hA⟩
  obtain ⟨q, hq⟩ : ∃ q, q = (takeS s n).1 := ⟨_, rfl⟩
  rw [← hq] at HM hbs HV
  have HB := Lib.hid hbs
  clear hbs hq
  go_wp2_with fail
  go_loopw [5, 12] (fun v i wr => ∃ k : Nat, k ≤ m ∧ i = .int .i64 k ∧ wr = w1 ∧ ∃ x : Nat, v = .int .u64 x ∧ x < 256 ^ k ∧ Hid (x = numOf (q.take k))) (fun _ i _ => m - (intOf i).toNat)
  case atStart => exact ⟨0, Nat.zero_le _, rfl, rfl, 0, rfl, by simp, Lib.hid (by simp [numOf])⟩
  case round =>
    obtain ⟨k, hk, rfl, rfl, x, rfl, hx, HX⟩ := hrel
    by_cases hlt : k < m
    · have hlt' : (k : Int) < m := by omega
      have hkq : k < q.length := by have := HM.out; omega
      obtain ⟨ad, rfl, hc⟩ := bs_cell HB.out hkq
      obtain ⟨b, hb⟩ : ∃ b, b = q[k] := ⟨_, rfl⟩
      rw [← hb] at hc
      obtain ⟨o1, o2⟩ := or_step x b.toNat k (by omega) hx b.toNat_lt
      have HX2 := Lib.hid (show x + 256 ^ k * b.toNat = numOf (q.take (k + 1)) by
        rw [List.take_succ_eq_append_getElem hkq, numOf_snoc, ← HX.out, List.length_take, Nat.min_eq_left (by omega), ← hb])
      obtain ⟨y, hy⟩ : ∃ y, y = x + 256 ^ k * b.toNat := ⟨_, rfl⟩
      rw [← hy] at o1 o2 HX2
      clear hb hy
      go_wp2_with fail
      go_roundw
      case rel => exact ⟨k + 1, by omega, by go_num, trivial, y, rfl, o2, HX2⟩
      case measure => simp [intOf]; omega
    · obtain rfl : k = m := by omega
      go_wp2
      go_ret
      exact ⟨by rw [← HV.out, ← List.take_of_length_le (l := q) (i := k) (by have := HM.out; omega), ← HX.out]; rfl, hr, hA⟩
end Go.Proofs.YtplcbdmiccpnnaaGreat.Re

/- Layer 7: the contracts of what a reader reads. -/
namespace Go.Proofs.YtplcbdmiccpnnaaGreat.Re
open Go.RowKit Go.Proofs.YtplcbdmiccpnnaaGreat Go.Proofs.YtplcbdmiccpnnaaGreat.Rp

/-- the number that a reader takes, under a name of its own -/
theorem rnumber_lit (p : Value) (g : Nat) {B : Nat} (s : St) (x : Int) (n : Nat) (hx : x = n) (hn : n ≤ 8) (w : World) (h : RP p g B s w) :
    Calls Tryz.prog 85 #[p, .int .i64 x] w fun e w' => (∃ y : Nat, e = .returned (.int .u64 y) ∧ y < 256 ^ n ∧ Hid (y = (numS s n).1)) ∧ RP p g B (numS s n).2 w' ∧ Aft g w.heap.size w w' := by
  subst hx
  exact (rnumber_any p g s n hn w h).mono fun e w' ⟨h1, h2, h3⟩ => ⟨⟨_, h1, numS_lt s n, Lib.hid rfl⟩, h2, h3⟩

theorem rbyte_any (p : Value) (g : Nat) {B : Nat} (s : St) (w : World) (h : RP p g B s w) :
    Calls Tryz.prog 60 #[p] w fun e w' => e = .returned (.int .i64 (numS s 1).1) ∧ RP p g B (numS s 1).2 w' ∧ Aft g w.heap.size w w' := by
  go_enter Tryz.func60, Tryz.ntmps60
  go_wp2_with (go_at_call 85; refine (rnumber_lit p g s 1 1 rfl (by omega) _ h).mono ?_; rintro e w1 ⟨⟨y, rfl, hy, HY⟩, hr, hA⟩)
  go_ret
  exact ⟨by rw [← HY.out]; rfl, hr, hA⟩

theorem rhalf_any (p : Value) (g : Nat) {B : Nat} (s : St) (w : World) (h : RP p g B s w) :
    Calls Tryz.prog 61 #[p] w fun e w' => e = .returned (.int .i64 (numS s 2).1) ∧ RP p g B (numS s 2).2 w' ∧ Aft g w.heap.size w w' := by
  go_enter Tryz.func61, Tryz.ntmps61
  go_wp2_with (go_at_call 85; refine (rnumber_lit p g s 2 2 rfl (by omega) _ h).mono ?_; rintro e w1 ⟨⟨y, rfl, hy, HY⟩, hr, hA⟩)
  go_ret
  exact ⟨by rw [← HY.out]; rfl, hr, hA⟩

theorem rlong_any (p : Value) (g : Nat) {B : Nat} (s : St) (w : World) (h : RP p g B s w) :
    Calls Tryz.prog 63 #[p] w fun e w' => e = .returned (.int .u64 (numS s 8).1) ∧ RP p g B (numS s 8).2 w' ∧ Aft g w.heap.size w w' := by
  go_enter Tryz.func63, Tryz.ntmps63
  go_wp2_with (go_at_call 85; refine (rnumber_lit p g s 8 8 rfl (by omega) _ h).mono ?_; rintro e w1 ⟨⟨y, rfl, hy, HY⟩, hr, hA⟩)
  go_ret
  exact ⟨by rw [← HY.out]; rfl, hr, hA⟩

theorem wrap16_small (y : Nat) (hy : y < 256 ^ 2) : IntKind.i16.wrap (y : Int) = small16 y := by
  have e : IntKind.i16.wrap (y : Int) = if 32768 ≤ (y : Int) % 65536 then (y : Int) % 65536 - 65536 else (y : Int) % 65536 := by simp [IntKind.wrap, IntKind.bits, IntKind.signed]
  rw [e]; unfold small16; split <;> split <;> omega

theorem wrap64_fix (y : Nat) (hy : y < 256 ^ 5) : wrap64 ((y : Int) * 16777216) / 16777216 = sign40 y := by
  unfold sign40 wrap64
  split <;> omega

theorem fix_over {s : St} {y : Nat} {z : Int} (hy : y = (numS s 5).1) (hz : z = sign40 y) (h : z < -2147483648 ∨ 2147483648 < z) : fixS s = (0, failS (numS s 5).2 33) := by
  subst hz hy
  unfold fixS; rw [if_pos h]

theorem fix_in {s : St} {y : Nat} {z : Int} (hy : y = (numS s 5).1) (hz : z = sign40 y) (h : ¬ (z < -2147483648 ∨ 2147483648 < z)) : fixS s = (z, (numS s 5).2) := by
  subst hz hy
  unfold fixS; rw [if_neg h]

theorem rsmall_any (p : Value) (g : Nat) {B : Nat} (s : St) (w : World) (h : RP p g B s w) :
    Calls Tryz.prog 67 #[p] w fun e w' => e = .returned (.int .i64 (small16 (numS s 2).1)) ∧ RP p g B (numS s 2).2 w' ∧ Aft g w.heap.size w w' := by
  go_enter Tryz.func67, Tryz.ntmps67
  go_wp2_with (go_at_call 85; refine (rnumber_lit p g s 2 2 rfl (by omega) _ h).mono ?_; rintro e w1 ⟨⟨y, rfl, hy, HY⟩, hr, hA⟩; obtain ⟨z, hz, HZ⟩ : ∃ z, IntKind.i16.wrap (y : Int) = z ∧ Hid (z = small16 y) := ⟨_, wrap16_small y hy, Lib.hid rfl⟩; have hz2 : -32768 ≤ z ∧ z ≤ 32767 := by have h1 := HZ.out; unfold small16 at h1; split at h1 <;> omega)
  go_ret
  refine ⟨?_, hr, hA⟩
  rw [← HY.out, ← HZ.out]
  rfl

set_option maxHeartbeats 1000000 in
theorem rfix_any (p : Value) (g : Nat) {B : Nat} (s : St) (w : World) (h : RP p g B s w) :
    Calls Tryz.prog 62 #[p] w fun e w' => e = .returned (.int .i64 (fixS s).1) ∧ RP p g B (fixS s).2 w' ∧ Aft g w.heap.size w w' := by
  go_enter Tryz.func62, Tryz.ntmps62
  go_wp2_with (first | (go_at_call 85; refine (rnumber_lit p g s 5 5 rfl (by omega) _ h).mono ?_; rintro e w1 ⟨⟨y, rfl, hy, HY⟩, hr, hA⟩; obtain ⟨z, hz, HZ⟩ : ∃ z, wrap64 ((y : Int) * 16777216) / 16777216 = z ∧ Hid (z = sign40 y) := ⟨_, wrap64_fix y hy, Lib.hid rfl⟩; have hz2 : -549755813888 ≤ z ∧ z ≤ 549755813887 := by have h1 := HZ.out; unfold sign40 at h1; split at h1 <;> omega) | (go_at_call 38; refine (fail_any p g _ 33 _ hr).mono ?_; rintro e w2 ⟨rfl, hr2, ha2⟩; have hsz := hA.size))
  all_goals go_ret
  all_goals by_cases hov : z < -2147483648 ∨ 2147483648 < z
  all_goals first
    | (exfalso; omega)
    | (have hF := fix_over HY.out HZ.out hov; rw [hF]; exact ⟨rfl, hr2, hA.trans (ha2.mono hsz)⟩)
    | (have hF := fix_in HY.out HZ.out hov; rw [hF]; exact ⟨rfl, hr, hA⟩)
end Go.Proofs.YtplcbdmiccpnnaaGreat.Re
