/- Layer 7: the contract of a reader's sum. -/
import Derived.Test.YtgkfoiekminfmaaRei
import Derived.Test.YtgkfoiekminfmaaRsn
import Derived.Laws.CopyOwn
import Derived.Deep.DeepCutAuto
namespace Go.Proofs.Ytgkfoiekminfmaa.Re
open Go.RowKit Go.Proofs.Ytgkfoiekminfmaa Go.Proofs.Ytgkfoiekminfmaa.Rp

abbrev Z32 : Array Value := #[.int .u8 0, .int .u8 0, .int .u8 0, .int .u8 0, .int .u8 0, .int .u8 0, .int .u8 0, .int .u8 0, .int .u8 0, .int .u8 0, .int .u8 0, .int .u8 0, .int .u8 0, .int .u8 0, .int .u8 0, .int .u8 0, .int .u8 0, .int .u8 0, .int .u8 0, .int .u8 0, .int .u8 0, .int .u8 0, .int .u8 0, .int .u8 0, .int .u8 0, .int .u8 0, .int .u8 0, .int .u8 0, .int .u8 0, .int .u8 0, .int .u8 0, .int .u8 0]

theorem z32_vals : Z32 = (vals (List.replicate 32 0)).toArray := rfl


theorem takeS_all (s : St) (n : Nat) : (takeS s n).1 = [] ∨ (takeS s n).1.length = n := by
  unfold takeS
  split
  · exact .inl rfl
  · split
    · exact .inl rfl
    · right; simp; omega

theorem sum_cells (s : St) : splice (vals (List.replicate 32 0)) 0 (vals (takeS s 32).1) = vals (sumS s).1 := by
  rcases takeS_all s 32 with h | h
  · unfold sumS; rw [if_pos h, h]; simp [splice, vals]
  · have hn : (takeS s 32).1 ≠ [] := fun e => by rw [e] at h; simp at h
    unfold sumS; rw [if_neg hn]
    unfold splice
    rw [List.take_zero, List.nil_append, vals_length, h, List.drop_eq_nil_of_le (by rw [vals_length]; simp), List.append_nil]

theorem sumS_len (s : St) : (sumS s).1.length = 32 := by
  unfold sumS
  rcases takeS_all s 32 with h | h
  · rw [if_pos h]; simp
  · rw [if_neg (fun e => by rw [e] at h; simp at h)]; exact h

theorem vals_all (l : List UInt8) : (vals l).toArray.all (·.oneCell') = true := all_oneCell_toArray (vals_one l)

theorem Aft.thenBelow {g base D : Nat} {a w w' : World} (h : Aft g base a w) (hb : Below D w w') (hD : a.heap.size ≤ D) : Aft g base a w' :=
  ⟨hb.os.trans h.os, hb.tape.trans h.tape, hb.output.trans h.output, Nat.le_trans h.size hb.size, fun k h1 h2 h3 => (hb.block k (by omega)).trans (h.block k h1 h2 h3),
    fun k cs t fr h1 h2 h3 => by
      have := lt_of_heap h3
      exact (hb.block k (by omega)).trans (h.other k cs t fr h1 h2 h3)⟩

end Go.Proofs.Ytgkfoiekminfmaa.Re
