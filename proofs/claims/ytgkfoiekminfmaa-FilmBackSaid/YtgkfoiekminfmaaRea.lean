/- Layer 7: the contracts of a writer's New and put. -/
import Derived.Test.YtgkfoiekminfmaaRew
import Derived.Laws.AppendOwnNone
namespace Go.Proofs.Ytgkfoiekminfmaa.Re
open Go.RowKit Go.Proofs.Ytgkfoiekminfmaa Go.Proofs.Ytgkfoiekminfmaa.Rp

theorem new_any (w : World) : Calls Try.prog 34 #[] w fun e w' => e = .returned (.pointer (some ⟨w.heap.size, 0, none⟩)) ∧ w' = w.alloc (.cells #[.slice none 0 0] 107) := by
  go_enter Try.func34, Try.ntmps34
  go_wp2
  go_ret
  exact ⟨rfl, rfl⟩

theorem new_at (w : World) (S : Nat → Prop) (h : ∀ k, S k → k < w.heap.size) : WAt w.heap.size S [] (w.alloc (.cells #[.slice none 0 0] 107)) :=
  ⟨by simp, fun k hk => by have := h k hk; simp; omega, fun e => Nat.lt_irrefl _ (h _ e), fun j => by go_simp, .slice none 0 0, by go_simp, World.ownsRow_nil _ _ _ _, fun q hq => by cases hq⟩

theorem put_some (g : Nat) (S : Nat → Prop) (l p : List UInt8) (ad : Addr) (cap : Nat) (w : World) (hW : WAt g S l w) (hb : ∀ j u, (vals p)[j]? = some u → w.cell? (ad.add j) = some u) (hsz : l.length + p.length ≤ 140737488355328) :
    Calls Try.prog 77 #[.pointer (some ⟨g, 0, none⟩), .slice (some ad) p.length cap] w fun e w' => e = .returned (.tuple #[]) ∧ WAt g S (l ++ p) w' ∧ Aw S w w' := by
  obtain ⟨i0, hi, hz0, hz1, hz2⟩ := info_parts infoByte
  obtain ⟨h1, h2, h0, h3, v, h4, h5, h6⟩ := hW
  have hf := h3 0
  go_enter Try.func77, Try.ntmps77
  go_wp2_with (first | (at_builtin; refine wpList_append_own_at _ rfl _ _ 45 rfl 0 5 i0 (.int .u8 0) 1 1 Try.underlying45 hi hz0 hz1 hz2 rfl (by decide) _ _ _ rfl h5 ad p.length cap (vals p) rfl ?c1 ?c2 (vals_one p) ?c3 ?c4 ?c5 ?_))
  case c1 => rw [vals_length]; omega
  case c2 => exact hb
  case c3 => unfold maxLen; omega
  case c4 => omega
  case c5 => exact Nat.zero_le _
  intro v' w1 hown hgrow _ hat
  have hA : Aw S w w1 := (Aw.refl S w).step hgrow (fun q hq => (h6 q hq).1)
  have hrow : some g ≠ v.ownBlock := fun e => (h6 g e.symm).2 rfl
  have k4 : w1.cell? ⟨g, 0, none⟩ = some v := hgrow.cell h4 hrow
  have k3 : ∀ j, w1.frozen? ⟨g, j, none⟩ = false := fun j => (hgrow.frozen_far ⟨g, j, none⟩ h1 hrow).trans (h3 j)
  have kf := k3 0
  have k6 : ∀ q, v'.ownBlock = some q → ¬ S q ∧ q ≠ g := fun q hq => by
    rcases hat with h | h
    · exact h6 q (by rw [← h]; exact hq)
    · rw [h] at hq
      cases hq
      exact ⟨fun e => Nat.lt_irrefl _ (h2 _ e), by omega⟩
  rw [← vals_append, ← List.length_append] at hown
  have hs := hA.size
  obtain ⟨a', c', hv⟩ := own_form hown
  subst hv
  have hfin := WAt.made (Nat.lt_of_lt_of_le h1 hs) (fun k hk => Nat.lt_of_lt_of_le (h2 k hk) hs) h0 k3 k4 hown k6
  rw [List.length_append] at hfin
  clear hown hgrow h5 hrow h4 h3 hf h6 k6 hat
  go_wp2
  go_end0
  exact ⟨rfl, hfin, hA.set h0 0 _⟩

theorem put_none (g : Nat) (S : Nat → Prop) (l : List UInt8) (w : World) (hW : WAt g S l w) :
    Calls Try.prog 77 #[.pointer (some ⟨g, 0, none⟩), .slice none 0 0] w fun e w' => e = .returned (.tuple #[]) ∧ WAt g S l w' ∧ Aw S w w' := by
  obtain ⟨i0, hi, hz0, hz1, hz2⟩ := info_parts infoByte
  obtain ⟨h1, h2, h0, h3, v, h4, h5, h6⟩ := hW
  have hf := h3 0
  obtain ⟨a', c', rfl⟩ := own_form h5
  go_enter Try.func77, Try.ntmps77
  go_wp2_with (first | (at_builtin; refine wpList_append_own_none rfl _ _ 45 rfl 0 5 i0 1 Try.underlying45 hi _ _ _ rfl h5 rfl ?_))
  have hfin := WAt.made h1 h2 h0 h3 h4 h5 h6
  clear h5 h3 h6
  go_wp2
  go_end0
  exact ⟨rfl, hfin, (Aw.refl S w).set h0 0 _⟩

theorem put_any (g : Nat) (S : Nat → Prop) (l p : List UInt8) (v : Value) (w : World) (hW : WAt g S l w) (hb : Bs w v p) (hsz : l.length + p.length ≤ 140737488355328) :
    Calls Try.prog 77 #[.pointer (some ⟨g, 0, none⟩), v] w fun e w' => e = .returned (.tuple #[]) ∧ WAt g S (l ++ p) w' ∧ Aw S w w' := by
  rcases hb with ⟨rfl, rfl⟩ | ⟨ad, cap, rfl, hb⟩
  · rw [List.append_nil]; exact put_none g S l w hW
  · exact put_some g S l p ad cap w hW hb hsz

theorem num_byte (n k : Nat) (x : Int) (hx : x = ((n / 256 ^ k % 256 : Nat) : Int)) (w : World) : ∀ j u, (vals [byteAt n k])[j]? = some u → (w.alloc (.cells #[.int .u8 x] 5)).cell? ((⟨w.heap.size, 0, none⟩ : Addr).add j) = some u := by
  intro j u hu
  match j, hu with
  | 0, hu => simp [vals, byteAt_toNat] at hu; subst hu; subst hx; simp [Addr.add]
  | j + 1, hu => simp [vals] at hu

theorem shr_byte (n k : Nat) : (n : Int) / 2 ^ (8 * k) % 256 = ((n / 256 ^ k % 256 : Nat) : Int) := by
  have e : (2 : Int) ^ (8 * k) = ((256 ^ k : Nat) : Int) := by
    rw [Int.pow_mul]; simp
  rw [e]; simp

set_option maxHeartbeats 1000000 in
theorem number_any (g : Nat) (S : Nat → Prop) (l : List UInt8) (n size : Nat) (_hn : n < 18446744073709551616) (hs : size ≤ 8) (w : World) (hW : WAt g S l w) (hsz : l.length + 8 ≤ 140737488355328) :
    Calls Try.prog 72 #[.pointer (some ⟨g, 0, none⟩), .int .u64 n, .int .i64 size] w fun e w' => e = .returned (.tuple #[]) ∧ WAt g S (l ++ bytesOf n size) w' ∧ Aw S w w' := by
  have HW := Lib.hid hW
  clear hW
  go_enter Try.func72, Try.ntmps72
  go_wp2_with fail
  go_loopw [8] (fun i wr => ∃ k : Nat, k ≤ size ∧ i = .int .i64 k ∧ Hid (WAt g S (l ++ bytesOf n k) wr) ∧ Aw S w wr) (fun i _ => size - (intOf i).toNat)
  case atStart => exact ⟨0, Nat.zero_le _, rfl, Lib.hid (by rw [bytesOf_zero, List.append_nil]; exact HW.out), Aw.refl _ _⟩
  case round =>
    obtain ⟨k, hk, rfl, HI, hA⟩ := hrel
    by_cases hlt : k < size
    · have hlt' : (k : Int) < size := by omega
      go_wp2_with fail
      refine (put_any g S _ [byteAt n k] _ _ (HI.out.on (below_n1 _ _)) (.inr ⟨_, 1, rfl, num_byte n k _ (shr_byte n k) _⟩) (by simp [bytesOf_length]; omega)).mono ?_
      rintro e w1 ⟨rfl, hw1, ha1⟩
      rw [List.append_assoc, ← bytesOf_succ] at hw1
      have hA2 := (hA.alloc _).trans ha1
      have HI2 := Lib.hid hw1
      clear hw1 ha1
      go_wp2_with fail
      go_roundw
      case rel => exact ⟨k + 1, by omega, by go_num, HI2, hA2⟩
      case measure => simp [intOf]; omega
    · obtain rfl : k = size := by omega
      go_wp2
      go_end0
      exact ⟨rfl, HI.out, hA⟩
end Go.Proofs.Ytgkfoiekminfmaa.Re
