/- Layer 7: the contracts of a writer's New and put. -/
import Derived.Test.YtfbppiamlolfpaaGreatD03
import Derived.Laws.AppendOwnNone
namespace Go.Proofs.YtfbppiamlolfpaaGreat.Re
open Go.RowKit Go.Proofs.YtfbppiamlolfpaaGreat Go.Proofs.YtfbppiamlolfpaaGreat.Rp

theorem new_any (w : World) : Calls Tryz.prog 16 #[] w fun e w' => e = .returned (.pointer (some ⟨w.heap.size, 0, none⟩)) ∧ w' = w.alloc (.cells #[.slice none 0 0] 131) := by
  go_enter Tryz.func16, Tryz.ntmps16
  go_wp2
  go_ret
  exact ⟨rfl, rfl⟩

theorem new_at (w : World) (S : Nat → Prop) (h : ∀ k, S k → k < w.heap.size) : WAt w.heap.size S [] (w.alloc (.cells #[.slice none 0 0] 131)) :=
  ⟨by simp, fun k hk => by have := h k hk; simp; omega, fun e => Nat.lt_irrefl _ (h _ e), fun j => by go_simp, .slice none 0 0, by go_simp, World.ownsRow_nil _ _ _ _, fun q hq => by cases hq⟩

theorem put_some (g : Nat) (S : Nat → Prop) (l p : List UInt8) (ad : Addr) (cap : Nat) (w : World) (hW : WAt g S l w) (hb : ∀ j u, (vals p)[j]? = some u → w.cell? (ad.add j) = some u) (hsz : l.length + p.length ≤ 140737488355328) :
    Calls Tryz.prog 126 #[.pointer (some ⟨g, 0, none⟩), .slice (some ad) p.length cap] w fun e w' => e = .returned (.tuple #[]) ∧ WAt g S (l ++ p) w' ∧ Aw S w w' := by
  obtain ⟨i0, hi, hz0, hz1, hz2⟩ := info_parts infoByte
  obtain ⟨h1, h2, h0, h3, v, h4, h5, h6⟩ := hW
  have hf := h3 0
  go_enter Tryz.func126, Tryz.ntmps126
  go_wp2_with (first | (at_builtin; refine wpList_append_own_at _ rfl _ _ 35 rfl 0 5 i0 (.int .u8 0) 1 1 Tryz.underlying35 hi hz0 hz1 hz2 rfl (by decide) _ _ _ rfl h5 ad p.length cap (vals p) rfl ?c1 ?c2 (vals_one p) ?c3 ?c4 ?c5 ?_))
  case c1 => rw [vals_length]; omega
  case c2 => exact hb
  case c3 => unfold maxLen; omega
  case c4 => omega
  case c5 => exact Nat.zero_le _
  intro v' w1 hown hgrow _ hat
  have hA : Aw S w w1 := (Aw.refl S w).step hgrow (fun q hq => (h6 q hq).1)
  have hrow : some g ≠ v.ownBlock := fun e => (h6 g e.symm).2 rfl
  have k4 : w1.cell? ⟨g, 0, none⟩ = some v := hgrow.cell h4 hrow
  have k3 : ∀ j, w1.frozen? ⟨g, j, none⟩ = false := fun j => (hgrow.frozen_far ⟨g, j, none⟩ h1 hrow).trans (h3 j)
  have kf := k3 0
  have k6 : ∀ q, v'.ownBlock = some q → ¬ S q ∧ q ≠ g := fun q hq => by
    rcases hat with h | h
    · exact h6 q (by rw [← h]; exact hq)
    · rw [h] at hq
      cases hq
      exact ⟨fun e => Nat.lt_irrefl _ (h2 _ e), by omega⟩
  rw [← vals_append, ← List.length_append] at hown
  have hs := hA.size
  obtain ⟨a', c', hv⟩ := own_form hown
  subst hv
  have hfin := WAt.made (Nat.lt_of_lt_of_le h1 hs) (fun k hk => Nat.lt_of_lt_of_le (h2 k hk) hs) h0 k3 k4 hown k6
  rw [List.length_append] at hfin
  clear hown hgrow h5 hrow h4 h3 hf h6 k6 hat
  go_wp2
  go_end0
  exact ⟨rfl, hfin, hA.set h0 0 _⟩

theorem put_none (g : Nat) (S : Nat → Prop) (l : List UInt8) (w : World) (hW : WAt g S l w) :
    Calls Tryz.prog 126 #[.pointer (some ⟨g, 0, none⟩), .slice none 0 0] w fun e w' => e = .returned (.tuple #[]) ∧ WAt g S l w' ∧ Aw S w w' := by
  obtain ⟨i0, hi, hz0, hz1, hz2⟩ := info_parts infoByte
  obtain ⟨h1, h2, h0, h3, v, h4, h5, h6⟩ := hW
  have hf := h3 0
  obtain ⟨a', c', rfl⟩ := own_form h5
  go_enter Tryz.func126, Tryz.ntmps126
  go_wp2_with (first | (at_builtin; refine wpList_append_own_none rfl _ _ 35 rfl 0 5 i0 1 Tryz.underlying35 hi _ _ _ rfl h5 rfl ?_))
  have hfin := WAt.made h1 h2 h0 h3 h4 h5 h6
  clear h5 h3 h6
  go_wp2
  go_end0
  exact ⟨rfl, hfin, (Aw.refl S w).set h0 0 _⟩

theorem put_any (g : Nat) (S : Nat → Prop) (l p : List UInt8) (v : Value) (w : World) (hW : WAt g S l w) (hb : Bs w v p) (hsz : l.length + p.length ≤ 140737488355328) :
    Calls Tryz.prog 126 #[.pointer (some ⟨g, 0, none⟩), v] w fun e w' => e = .returned (.tuple #[]) ∧ WAt g S (l ++ p) w' ∧ Aw S w w' := by
  rcases hb with ⟨rfl, rfl⟩ | ⟨ad, cap, rfl, hb⟩
  · rw [List.append_nil]; exact put_none g S l w hW
  · exact put_some g S l p ad cap w hW hb hsz

theorem num_byte (n k : Nat) (x : Int) (hx : x = ((n / 256 ^ k % 256 : Nat) : Int)) (w : World) : ∀ j u, (vals [byteAt n k])[j]? = some u → (w.alloc (.cells #[.int .u8 x] 5)).cell? ((⟨w.heap.size, 0, none⟩ : Addr).add j) = some u := by
  intro j u hu
  match j, hu with
  | 0, hu => simp [vals, byteAt_toNat] at hu; subst hu; subst hx; simp [Addr.add]
  | j + 1, hu => simp [vals] at hu

theorem shr_byte (n k : Nat) : (n : Int) / 2 ^ (8 * k) % 256 = ((n / 256 ^ k % 256 : Nat) : Int) := by
  have e : (2 : Int) ^ (8 * k) = ((256 ^ k : Nat) : Int) := by
    rw [Int.pow_mul]; simp
  rw [e]; simp

set_option maxHeartbeats 1000000 in
theorem number_any (g : Nat) (S : Nat → Prop) (l : List UInt8) (n size : Nat) (_hn : n < 18446744073709551616) (hs : size ≤ 8) (w : World) (hW : WAt g S l w) (hsz : l.length + 8 ≤ 140737488355328) :
    Calls Tryz.prog 119 #[.pointer (some ⟨g, 0, none⟩), .int .u64 n, .int .i64 size] w fun e w' => e = .returned (.tuple #[]) ∧ WAt g S (l ++ bytesOf n size) w' ∧ Aw S w w' := by
  have HW := Lib.hid hW
  clear hW
  go_enter Tryz.func119, Tryz.ntmps119
  go_wp2_with fail
  go_loopw [8] (fun i wr => ∃ k : Nat, k ≤ size ∧ i = .int .i64 k ∧ Hid (WAt g S (l ++ bytesOf n k) wr) ∧ Aw S w wr) (fun i _ => size - (intOf i).toNat)
  case atStart => exact ⟨0, Nat.zero_le _, rfl, Lib.hid (by rw [bytesOf_zero, List.append_nil]; exact HW.out), Aw.refl _ _⟩
  case round =>
    obtain ⟨k, hk, rfl, HI, hA⟩ := hrel
    by_cases hlt : k < size
    · have hlt' : (k : Int) < size := by omega
      go_wp2_with fail
      refine (put_any g S _ [byteAt n k] _ _ (HI.out.on (below_n1 _ _)) (.inr ⟨_, 1, rfl, num_byte n k _ (shr_byte n k) _⟩) (by simp [bytesOf_length]; omega)).mono ?_
      rintro e w1 ⟨rfl, hw1, ha1⟩
      rw [List.append_assoc, ← bytesOf_succ] at hw1
      have hA2 := (hA.alloc _).trans ha1
      have HI2 := Lib.hid hw1
      clear hw1 ha1
      go_wp2_with fail
      go_roundw
      case rel => exact ⟨k + 1, by omega, by go_num, HI2, hA2⟩
      case measure => simp [intOf]; omega
    · obtain rfl : k = size := by omega
      go_wp2
      go_end0
      exact ⟨rfl, HI.out, hA⟩
end Go.Proofs.YtfbppiamlolfpaaGreat.Re

/- Layer 7: the contracts of a writer's numbers of one, two, four, eight and five bytes. -/
namespace Go.Proofs.YtfbppiamlolfpaaGreat.Re
open Go.RowKit Go.Proofs.YtfbppiamlolfpaaGreat Go.Proofs.YtfbppiamlolfpaaGreat.Rp

/-- a slice of integers that stays while a writer writes -/
def Ints (S : Nat → Prop) (w : World) (a : Option Addr) (zs : List Int) : Prop :=
  zs = [] ∨ ∃ b off, a = some ⟨b, off, none⟩ ∧ ∀ w', Aw S w w' → ∀ j, j < zs.length → w'.cell? ⟨b, off + j, none⟩ = some (.int .i64 (zs.getD j 0))

theorem Ints.cons {S : Nat → Prop} {w : World} {b : Nat} {cs : Array Value} {t : TypeId} {fr : Nat × Nat} (zs : List Int) (hb : w.heap[b]? = some (.cells cs t fr)) (hS : S b) (hc : ∀ j, j < zs.length → cs[j]? = some (.int .i64 (zs.getD j 0))) : Ints S w (some ⟨b, 0, none⟩) zs :=
  .inr ⟨b, 0, rfl, fun w' ha j hj => by
    rw [Nat.zero_add, cell_of_row w' b j cs t fr ((ha.block b hS (lt_of_heap hb)).trans hb)]; exact hc j hj⟩

theorem Ints.one {S : Nat → Prop} {w : World} (x : Int) (t : TypeId) : Ints (fun k => S k ∨ k = w.heap.size) (w.alloc (.cells #[.int .i64 x] t)) (some ⟨w.heap.size, 0, none⟩) [x] :=
  Ints.cons [x] (heap_alloc_last w _) (.inr rfl) (fun j hj => by
    match j, hj with
    | 0, _ => rfl)

theorem Ints.one2 {S : Nat → Prop} {w : World} (x : Int) (t : TypeId) (b : Nat) (hb : b = w.heap.size) : Ints (fun k => S k ∨ k = b) (w.alloc (.cells #[.int .i64 x] t)) (some ⟨b, 0, none⟩) [x] := by
  subst hb; exact Ints.one x t

theorem WAt.push2 {g : Nat} {S : Nat → Prop} {l : List UInt8} {w : World} (h : WAt g S l w) (o : Obj) (b : Nat) (hb : b = w.heap.size) : WAt g (fun k => S k ∨ k = b) l (w.alloc o) := by
  subst hb; exact h.push o

set_option maxHeartbeats 1000000 in
theorem numbers_any (g : Nat) (S : Nat → Prop) (l : List UInt8) (size : Nat) (hs : size ≤ 8) (a : Option Addr) (cap : Nat) (zs : List Int) (w : World) (hW : WAt g S l w) (hr : Ints S w a zs) (hz : zs.length ≤ 17592186044416) (hsz : l.length + zs.length * size + 8 ≤ 140737488355328) :
    Calls Tryz.prog 93 #[.pointer (some ⟨g, 0, none⟩), .int .i64 size, .slice a zs.length cap] w fun e w' => e = .returned (.tuple #[]) ∧ WAt g S (l ++ numsOf size zs) w' ∧ Aw S w w' := by
  have HW := Lib.hid hW
  have HR := Lib.hid hr
  obtain ⟨len, hlen⟩ : ∃ len, len = zs.length := ⟨_, rfl⟩
  rw [← hlen] at hz hsz ⊢
  have HL := Lib.hid hlen
  clear hW hr hlen
  go_enter Tryz.func93, Tryz.ntmps93
  go_wp2_with fail
  go_loopw [10] (fun i wr => ∃ k : Nat, k ≤ len ∧ i = .int .i64 k ∧ Hid (WAt g S (l ++ numsOf size (zs.take k)) wr) ∧ Aw S w wr) (fun i _ => len - (intOf i).toNat)
  case atStart => exact ⟨0, Nat.zero_le _, rfl, Lib.hid (by rw [List.take_zero, numsOf_nil, List.append_nil]; exact HW.out), Aw.refl _ _⟩
  case round =>
    obtain ⟨k, hk, rfl, HI, hA⟩ := hrel
    by_cases hlt : k < len
    · have hlt' : (k : Int) < len := by omega
      have hkz : k < zs.length := by have := HL.out; omega
      obtain h' | ⟨b, off, rfl, hc⟩ := HR.out
      · exfalso; rw [h'] at hkz; simp at hkz
      have hck := hc wr hA k hkz
      have HKZ := Lib.hid hkz
      obtain ⟨z, hz'⟩ : ∃ z, z = zs.getD k 0 := ⟨_, rfl⟩
      rw [← hz'] at hck
      have HZ := Lib.hid hz'
      clear hc hz' hkz
      obtain ⟨n, hn⟩ : ∃ n : Nat, n = u64 z := ⟨_, rfl⟩
      have hnz : IntKind.u64.wrap z = (n : Int) := by rw [hn, u64_wrap]
      have hnl : n < 18446744073709551616 := by rw [hn]; exact u64_lt z
      have HN := Lib.hid hn
      clear hn
      have hb : (l ++ numsOf size (zs.take k)).length + 8 ≤ 140737488355328 := by
        rw [List.length_append, numsOf_length, List.length_take]
        have := Nat.mul_le_mul_right size (Nat.min_le_left k zs.length)
        have := Nat.mul_le_mul_right size hk
        omega
      have HB := Lib.hid hb
      clear hb
      go_wp2_with fail
      refine (number_any g S _ n size hnl hs _ HI.out HB.out).mono ?_
      rintro e w1 ⟨rfl, hw1, ha1⟩
      have HI2 := Lib.hid (show WAt g S (l ++ numsOf size (zs.take (k + 1))) w1 by
        rw [take_snoc zs k HKZ.out, numsOf_snoc, ← HZ.out, ← HN.out, ← List.append_assoc]; exact hw1)
      have hA2 := hA.trans ha1
      clear hw1 ha1 hck
      go_wp2_with fail
      go_roundw
      case rel => exact ⟨k + 1, by omega, by go_num, HI2, hA2⟩
      case measure => simp [intOf]; omega
    · obtain rfl : k = len := by omega
      go_wp2
      go_end0
      exact ⟨rfl, by have h := HI.out; rw [List.take_of_length_le (by have := HL.out; omega)] at h; exact h, hA⟩

theorem numbers_one (g : Nat) (S : Nat → Prop) (l : List UInt8) (size : Nat) (hs : size ≤ 8) (a : Option Addr) (cap : Nat) (z : Int) (w : World) (hW : WAt g S l w) (hr : Ints S w a [z]) (hsz : l.length + 16 ≤ 140737488355328) :
    Calls Tryz.prog 93 #[.pointer (some ⟨g, 0, none⟩), .int .i64 size, .slice a 1 cap] w fun e w' => e = .returned (.tuple #[]) ∧ WAt g S (l ++ bytesOf (u64 z) size) w' ∧ Aw S w w' := by
  have h := numbers_any g S l size hs a cap [z] w hW hr (by simp) (by simp; omega)
  rw [numsOf_one] at h
  exact h

theorem byte_any (g : Nat) (S : Nat → Prop) (l : List UInt8) (a : Option Addr) (cap : Nat) (z : Int) (w : World) (hW : WAt g S l w) (hr : Ints S w a [z]) (hsz : l.length + 16 ≤ 140737488355328) :
    Calls Tryz.prog 49 #[.pointer (some ⟨g, 0, none⟩), .slice a 1 cap] w fun e w' => e = .returned (.tuple #[]) ∧ WAt g S (l ++ bytesOf (u64 z) 1) w' ∧ Aw S w w' := by
  go_enter Tryz.func49, Tryz.ntmps49
  go_wp2_with fail
  refine (numbers_one g S l 1 (by omega) a cap z _ hW hr hsz).mono ?_
  rintro e w1 ⟨rfl, hw1, ha1⟩
  go_wp2_with fail
  go_end0
  exact ⟨rfl, hw1, ha1⟩

theorem half_any (g : Nat) (S : Nat → Prop) (l : List UInt8) (a : Option Addr) (cap : Nat) (zs : List Int) (w : World) (hW : WAt g S l w) (hr : Ints S w a zs) (hz : zs.length ≤ 17592186044416) (hsz : l.length + zs.length * 2 + 8 ≤ 140737488355328) :
    Calls Tryz.prog 94 #[.pointer (some ⟨g, 0, none⟩), .slice a zs.length cap] w fun e w' => e = .returned (.tuple #[]) ∧ WAt g S (l ++ numsOf 2 zs) w' ∧ Aw S w w' := by
  obtain ⟨len, hlen⟩ : ∃ len, len = zs.length := ⟨_, rfl⟩
  have h := numbers_any g S l 2 (by omega) a cap zs w hW hr hz (by omega)
  rw [← hlen] at h ⊢
  clear hlen hsz hz
  go_enter Tryz.func94, Tryz.ntmps94
  go_wp2_with fail
  refine h.mono ?_
  rintro e w1 ⟨rfl, hw1, ha1⟩
  go_wp2_with fail
  go_end0
  exact ⟨rfl, hw1, ha1⟩

theorem half_one (g : Nat) (S : Nat → Prop) (l : List UInt8) (a : Option Addr) (cap : Nat) (z : Int) (w : World) (hW : WAt g S l w) (hr : Ints S w a [z]) (hsz : l.length + 16 ≤ 140737488355328) :
    Calls Tryz.prog 94 #[.pointer (some ⟨g, 0, none⟩), .slice a 1 cap] w fun e w' => e = .returned (.tuple #[]) ∧ WAt g S (l ++ bytesOf (u64 z) 2) w' ∧ Aw S w w' := by
  have h := half_any g S l a cap [z] w hW hr (by simp) (by simp; omega)
  rw [numsOf_one] at h
  exact h

theorem long_any (g : Nat) (S : Nat → Prop) (l : List UInt8) (n : Nat) (hn : n < 18446744073709551616) (w : World) (hW : WAt g S l w) (hsz : l.length + 16 ≤ 140737488355328) :
    Calls Tryz.prog 96 #[.pointer (some ⟨g, 0, none⟩), .int .u64 n] w fun e w' => e = .returned (.tuple #[]) ∧ WAt g S (l ++ bytesOf n 8) w' ∧ Aw S w w' := by
  go_enter Tryz.func96, Tryz.ntmps96
  go_wp2_with fail
  refine (number_any g S l n 8 hn (by omega) _ hW (by omega)).mono ?_
  rintro e w1 ⟨rfl, hw1, ha1⟩
  go_wp2_with fail
  go_end0
  exact ⟨rfl, hw1, ha1⟩

set_option maxHeartbeats 1000000 in
theorem fix_list (g : Nat) (S : Nat → Prop) (l : List UInt8) (a : Option Addr) (cap : Nat) (zs : List Int) (w : World) (hW : WAt g S l w) (hr : Ints S w a zs) (hz : zs.length ≤ 1000) (hsz : l.length + 10000 ≤ 140737488355328) :
    Calls Tryz.prog 95 #[.pointer (some ⟨g, 0, none⟩), .slice a zs.length cap] w fun e w' => e = .returned (.tuple #[]) ∧ WAt g S (l ++ numsOf 5 zs) w' ∧ Aw S w w' := by
  have HW := Lib.hid hW
  have HR := Lib.hid hr
  obtain ⟨len, hlen⟩ : ∃ len, len = zs.length := ⟨_, rfl⟩
  rw [← hlen] at hz ⊢
  have HL := Lib.hid hlen
  clear hW hr hlen
  go_enter Tryz.func95, Tryz.ntmps95
  go_wp2_with fail
  go_loopw [8] (fun i wr => ∃ k : Nat, k ≤ len ∧ i = .int .i64 k ∧ Hid (WAt g S (l ++ numsOf 5 (zs.take k)) wr) ∧ Aw S w wr) (fun i _ => len - (intOf i).toNat)
  case atStart => exact ⟨0, Nat.zero_le _, rfl, Lib.hid (by rw [List.take_zero, numsOf_nil, List.append_nil]; exact HW.out), Aw.refl _ _⟩
  case round =>
    obtain ⟨k, hk, rfl, HI, hA⟩ := hrel
    by_cases hlt : k < len
    · have hlt' : (k : Int) < len := by omega
      have hkz : k < zs.length := by have := HL.out; omega
      obtain h' | ⟨b, off, rfl, hc⟩ := HR.out
      · exfalso; rw [h'] at hkz; simp at hkz
      have hck := hc wr hA k hkz
      have HKZ := Lib.hid hkz
      obtain ⟨z, hz'⟩ : ∃ z, z = zs.getD k 0 := ⟨_, rfl⟩
      rw [← hz'] at hck
      have HZ := Lib.hid hz'
      clear hc hz' hkz
      obtain ⟨n, hn⟩ : ∃ n : Nat, n = u64 z := ⟨_, rfl⟩
      have hnz : IntKind.u64.wrap z = (n : Int) := by rw [hn, u64_wrap]
      have hnl : n < 18446744073709551616 := by rw [hn]; exact u64_lt z
      have HN := Lib.hid hn
      clear hn
      have HB := Lib.hid (show (l ++ numsOf 5 (zs.take k)).length + 8 ≤ 140737488355328 by
        rw [List.length_append, numsOf_length, List.length_take]
        omega)
      go_wp2_with fail
      refine (number_any g S _ n 5 hnl (by omega) _ HI.out HB.out).mono ?_
      rintro e w1 ⟨rfl, hw1, ha1⟩
      have HI2 := Lib.hid (show WAt g S (l ++ numsOf 5 (zs.take (k + 1))) w1 by
        rw [take_snoc zs k HKZ.out, numsOf_snoc, ← HZ.out, ← HN.out, ← List.append_assoc]; exact hw1)
      have hA2 := hA.trans ha1
      clear hw1 ha1 hck
      go_wp2_with fail
      go_roundw
      case rel => exact ⟨k + 1, by omega, by go_num, HI2, hA2⟩
      case measure => simp [intOf]; omega
    · obtain rfl : k = len := by omega
      go_wp2
      go_end0
      exact ⟨rfl, by have h := HI.out; rw [List.take_of_length_le (by have := HL.out; omega)] at h; exact h, hA⟩
end Go.Proofs.YtfbppiamlolfpaaGreat.Re
