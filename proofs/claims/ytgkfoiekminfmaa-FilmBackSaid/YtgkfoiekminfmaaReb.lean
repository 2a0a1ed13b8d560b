/- Layer 7: the contracts of a writer's numbers of one, two, four, eight and five bytes. -/
import Derived.Test.YtgkfoiekminfmaaRea
namespace Go.Proofs.Ytgkfoiekminfmaa.Re
open Go.RowKit Go.Proofs.Ytgkfoiekminfmaa Go.Proofs.Ytgkfoiekminfmaa.Rp

/-- a slice of integers that stays while a writer writes -/
def Ints (S : Nat → Prop) (w : World) (a : Option Addr) (zs : List Int) : Prop :=
  zs = [] ∨ ∃ b off, a = some ⟨b, off, none⟩ ∧ ∀ w', Aw S w w' → ∀ j, j < zs.length → w'.cell? ⟨b, off + j, none⟩ = some (.int .i64 (zs.getD j 0))

theorem Ints.cons {S : Nat → Prop} {w : World} {b : Nat} {cs : Array Value} {t : TypeId} {fr : Nat × Nat} (zs : List Int) (hb : w.heap[b]? = some (.cells cs t fr)) (hS : S b) (hc : ∀ j, j < zs.length → cs[j]? = some (.int .i64 (zs.getD j 0))) : Ints S w (some ⟨b, 0, none⟩) zs :=
  .inr ⟨b, 0, rfl, fun w' ha j hj => by
    rw [Nat.zero_add, cell_of_row w' b j cs t fr ((ha.block b hS (lt_of_heap hb)).trans hb)]; exact hc j hj⟩

theorem Ints.one {S : Nat → Prop} {w : World} (x : Int) (t : TypeId) : Ints (fun k => S k ∨ k = w.heap.size) (w.alloc (.cells #[.int .i64 x] t)) (some ⟨w.heap.size, 0, none⟩) [x] :=
  Ints.cons [x] (heap_alloc_last w _) (.inr rfl) (fun j hj => by
    match j, hj with
    | 0, _ => rfl)

theorem Ints.one2 {S : Nat → Prop} {w : World} (x : Int) (t : TypeId) (b : Nat) (hb : b = w.heap.size) : Ints (fun k => S k ∨ k = b) (w.alloc (.cells #[.int .i64 x] t)) (some ⟨b, 0, none⟩) [x] := by
  subst hb; exact Ints.one x t

theorem WAt.push2 {g : Nat} {S : Nat → Prop} {l : List UInt8} {w : World} (h : WAt g S l w) (o : Obj) (b : Nat) (hb : b = w.heap.size) : WAt g (fun k => S k ∨ k = b) l (w.alloc o) := by
  subst hb; exact h.push o

set_option maxHeartbeats 1000000 in
theorem numbers_any (g : Nat) (S : Nat → Prop) (l : List UInt8) (size : Nat) (hs : size ≤ 8) (a : Option Addr) (cap : Nat) (zs : List Int) (w : World) (hW : WAt g S l w) (hr : Ints S w a zs) (hz : zs.length ≤ 17592186044416) (hsz : l.length + zs.length * size + 8 ≤ 140737488355328) :
    Calls Try.prog 71 #[.pointer (some ⟨g, 0, none⟩), .int .i64 size, .slice a zs.length cap] w fun e w' => e = .returned (.tuple #[]) ∧ WAt g S (l ++ numsOf size zs) w' ∧ Aw S w w' := by
  have HW := Lib.hid hW
  have HR := Lib.hid hr
  obtain ⟨len, hlen⟩ : ∃ len, len = zs.length := ⟨_, rfl⟩
  rw [← hlen] at hz hsz ⊢
  have HL := Lib.hid hlen
  clear hW hr hlen
  go_enter Try.func71, Try.ntmps71
  go_wp2_with fail
  go_loopw [10] (fun i wr => ∃ k : Nat, k ≤ len ∧ i = .int .i64 k ∧ Hid (WAt g S (l ++ numsOf size (zs.take k)) wr) ∧ Aw S w wr) (fun i _ => len - (intOf i).toNat)
  case atStart => exact ⟨0, Nat.zero_le _, rfl, Lib.hid (by rw [List.take_zero, numsOf_nil, List.append_nil]; exact HW.out), Aw.refl _ _⟩
  case round =>
    obtain ⟨k, hk, rfl, HI, hA⟩ := hrel
    by_cases hlt : k < len
    · have hlt' : (k : Int) < len := by omega
      have hkz : k < zs.length := by have := HL.out; omega
      obtain h' | ⟨b, off, rfl, hc⟩ := HR.out
      · exfalso; rw [h'] at hkz; simp at hkz
      have hck := hc wr hA k hkz
      have HKZ := Lib.hid hkz
      obtain ⟨z, hz'⟩ : ∃ z, z = zs.getD k 0 := ⟨_, rfl⟩
      rw [← hz'] at hck
      have HZ := Lib.hid hz'
      clear hc hz' hkz
      obtain ⟨n, hn⟩ : ∃ n : Nat, n = u64 z := ⟨_, rfl⟩
      have hnz : IntKind.u64.wrap z = (n : Int) := by rw [hn, u64_wrap]
      have hnl : n < 18446744073709551616 := by rw [hn]; exact u64_lt z
      have HN := Lib.hid hn
      clear hn
      have hb : (l ++ numsOf size (zs.take k)).length + 8 ≤ 140737488355328 := by
        rw [List.length_append, numsOf_length, List.length_take]
        have := Nat.mul_le_mul_right size (Nat.min_le_left k zs.length)
        have := Nat.mul_le_mul_right size hk
        omega
      have HB := Lib.hid hb
      clear hb
      go_wp2_with fail
      refine (number_any g S _ n size hnl hs _ HI.out HB.out).mono ?_
      rintro e w1 ⟨rfl, hw1, ha1⟩
      have HI2 := Lib.hid (show WAt g S (l ++ numsOf size (zs.take (k + 1))) w1 by
        rw [take_snoc zs k HKZ.out, numsOf_snoc, ← HZ.out, ← HN.out, ← List.append_assoc]; exact hw1)
      have hA2 := hA.trans ha1
      clear hw1 ha1 hck
      go_wp2_with fail
      go_roundw
      case rel => exact ⟨k + 1, by omega, by go_num, HI2, hA2⟩
      case measure => simp [intOf]; omega
    · obtain rfl : k = len := by omega
      go_wp2
      go_end0
      exact ⟨rfl, by have h := HI.out; rw [List.take_of_length_le (by have := HL.out; omega)] at h; exact h, hA⟩

theorem numbers_one (g : Nat) (S : Nat → Prop) (l : List UInt8) (size : Nat) (hs : size ≤ 8) (a : Option Addr) (cap : Nat) (z : Int) (w : World) (hW : WAt g S l w) (hr : Ints S w a [z]) (hsz : l.length + 16 ≤ 140737488355328) :
    Calls Try.prog 71 #[.pointer (some ⟨g, 0, none⟩), .int .i64 size, .slice a 1 cap] w fun e w' => e = .returned (.tuple #[]) ∧ WAt g S (l ++ bytesOf (u64 z) size) w' ∧ Aw S w w' := by
  have h := numbers_any g S l size hs a cap [z] w hW hr (by simp) (by simp; omega)
  rw [numsOf_one] at h
  exact h

theorem half_any (g : Nat) (S : Nat → Prop) (l : List UInt8) (a : Option Addr) (cap : Nat) (zs : List Int) (w : World) (hW : WAt g S l w) (hr : Ints S w a zs) (hz : zs.length ≤ 17592186044416) (hsz : l.length + zs.length * 2 + 8 ≤ 140737488355328) :
    Calls Try.prog 52 #[.pointer (some ⟨g, 0, none⟩), .slice a zs.length cap] w fun e w' => e = .returned (.tuple #[]) ∧ WAt g S (l ++ numsOf 2 zs) w' ∧ Aw S w w' := by
  obtain ⟨len, hlen⟩ : ∃ len, len = zs.length := ⟨_, rfl⟩
  have h := numbers_any g S l 2 (by omega) a cap zs w hW hr hz (by omega)
  rw [← hlen] at h ⊢
  clear hlen hsz hz
  go_enter Try.func52, Try.ntmps52
  go_wp2_with fail
  refine h.mono ?_
  rintro e w1 ⟨rfl, hw1, ha1⟩
  go_wp2_with fail
  go_end0
  exact ⟨rfl, hw1, ha1⟩

theorem half_one (g : Nat) (S : Nat → Prop) (l : List UInt8) (a : Option Addr) (cap : Nat) (z : Int) (w : World) (hW : WAt g S l w) (hr : Ints S w a [z]) (hsz : l.length + 16 ≤ 140737488355328) :
    Calls Try.prog 52 #[.pointer (some ⟨g, 0, none⟩), .slice a 1 cap] w fun e w' => e = .returned (.tuple #[]) ∧ WAt g S (l ++ bytesOf (u64 z) 2) w' ∧ Aw S w w' := by
  have h := half_any g S l a cap [z] w hW hr (by simp) (by simp; omega)
  rw [numsOf_one] at h
  exact h

set_option maxHeartbeats 1000000 in
theorem fix_list (g : Nat) (S : Nat → Prop) (l : List UInt8) (a : Option Addr) (cap : Nat) (zs : List Int) (w : World) (hW : WAt g S l w) (hr : Ints S w a zs) (hz : zs.length ≤ 1000) (hsz : l.length + 10000 ≤ 140737488355328) :
    Calls Try.prog 55 #[.pointer (some ⟨g, 0, none⟩), .slice a zs.length cap] w fun e w' => e = .returned (.tuple #[]) ∧ WAt g S (l ++ numsOf 5 zs) w' ∧ Aw S w w' := by
  have HW := Lib.hid hW
  have HR := Lib.hid hr
  obtain ⟨len, hlen⟩ : ∃ len, len = zs.length := ⟨_, rfl⟩
  rw [← hlen] at hz ⊢
  have HL := Lib.hid hlen
  clear hW hr hlen
  go_enter Try.func55, Try.ntmps55
  go_wp2_with fail
  go_loopw [8] (fun i wr => ∃ k : Nat, k ≤ len ∧ i = .int .i64 k ∧ Hid (WAt g S (l ++ numsOf 5 (zs.take k)) wr) ∧ Aw S w wr) (fun i _ => len - (intOf i).toNat)
  case atStart => exact ⟨0, Nat.zero_le _, rfl, Lib.hid (by rw [List.take_zero, numsOf_nil, List.append_nil]; exact HW.out), Aw.refl _ _⟩
  case round =>
    obtain ⟨k, hk, rfl, HI, hA⟩ := hrel
    by_cases hlt : k < len
    · have hlt' : (k : Int) < len := by omega
      have hkz : k < zs.length := by have := HL.out; omega
      obtain h' | ⟨b, off, rfl, hc⟩ := HR.out
      · exfalso; rw [h'] at hkz; simp at hkz
      have hck := hc wr hA k hkz
      have HKZ := Lib.hid hkz
      obtain ⟨z, hz'⟩ : ∃ z, z = zs.getD k 0 := ⟨_, rfl⟩
      rw [← hz'] at hck
      have HZ := Lib.hid hz'
      clear hc hz' hkz
      obtain ⟨n, hn⟩ : ∃ n : Nat, n = u64 z := ⟨_, rfl⟩
      have hnz : IntKind.u64.wrap z = (n : Int) := by rw [hn, u64_wrap]
      have hnl : n < 18446744073709551616 := by rw [hn]; exact u64_lt z
      have HN := Lib.hid hn
      clear hn
      have HB := Lib.hid (show (l ++ numsOf 5 (zs.take k)).length + 8 ≤ 140737488355328 by
        rw [List.length_append, numsOf_length, List.length_take]
        omega)
      go_wp2_with fail
      refine (number_any g S _ n 5 hnl (by omega) _ HI.out HB.out).mono ?_
      rintro e w1 ⟨rfl, hw1, ha1⟩
      have HI2 := Lib.hid (show WAt g S (l ++ numsOf 5 (zs.take (k + 1))) w1 by
        rw [take_snoc zs k HKZ.out, numsOf_snoc, ← HZ.out, ← HN.out, ← List.append_assoc]; exact hw1)
      have hA2 := hA.trans ha1
      clear hw1 ha1 hck
      go_wp2_with fail
      go_roundw
      case rel => exact ⟨k + 1, by omega, by go_num, HI2, hA2⟩
      case measure => simp [intOf]; omega
    · obtain rfl : k = len := by omega
      go_wp2
      go_end0
      exact ⟨rfl, by have h := HI.out; rw [List.take_of_length_le (by have := HL.out; omega)] at h; exact h, hA⟩
end Go.Proofs.Ytgkfoiekminfmaa.Re
