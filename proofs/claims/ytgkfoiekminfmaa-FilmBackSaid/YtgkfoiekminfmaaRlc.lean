/- Layer 7: the document's bytes of a point and of a blob: contracts. -/
import Derived.Test.YtgkfoiekminfmaaRlb
namespace Go.Proofs.Ytgkfoiekminfmaa.Re
open Go.RowKit Go.Proofs.Ytgkfoiekminfmaa Go.Proofs.Ytgkfoiekminfmaa.Rp
set_option linter.unusedVariables false

theorem own_mono {w : World} {b1 b2 : Nat} {e : TypeId} {size n : Nat} {v : Value} {xs : List Value} (h : w.ownsRow b1 e size v n xs) (hb : b2 ≤ b1) : w.ownsRow b2 e size v n xs := by
  refine ⟨h.1, ?_⟩
  rcases h.2 with h | ⟨q, cap, cur, h1, h2, h3⟩
  · exact .inl h
  · exact .inr ⟨q, cap, cur, h1, by omega, h3⟩

theorem three_at (x y z : Int) (w : World) (t : TypeId) (k : Nat) (hk : k < 3) : (w.alloc (.cells #[.int .i64 x, .int .i64 y, .int .i64 z] t)).cell? ⟨w.heap.size, k, none⟩ = some (.int .i64 ([x, y, z].getD k 0)) := by
  match k, hk with
  | 0, _ => go_simp
  | 1, _ => go_simp
  | 2, _ => go_simp

set_option maxHeartbeats 2000000 in
theorem dvec_any (l : List UInt8) (x y z : Int) (v : Value) (w : World) (hb : Bs w v l) (hl : l.length + 100 ≤ 140737488355328) :
    Calls Try.prog 39 #[v, .agg #[.int .i64 x, .int .i64 y, .int .i64 z]] w fun e w' => (∃ v', e = .returned v' ∧ w'.ownsRow w.heap.size 5 1 v' (l ++ numsOf 5 [x, y, z]).length (vals (l ++ numsOf 5 [x, y, z]))) ∧ Below w.heap.size w w' := by
  have HB := Lib.hid (hb.on (below_n1 w (.cells #[.int .i64 x, .int .i64 y, .int .i64 z] 71)))
  have HC := Lib.hid (three_at x y z w 71)
  clear hb
  go_enter Try.func39, Try.ntmps39
  go_wp2_with fail
  go_loopw [0, 5] (fun b i wr => ∃ k : Nat, k ≤ 3 ∧ i = .int .i64 k ∧ Hid (Bs wr b (l ++ numsOf 5 ([x, y, z].take k))) ∧ Hid (0 < k → wr.ownsRow w.heap.size 5 1 b (l ++ numsOf 5 ([x, y, z].take k)).length (vals (l ++ numsOf 5 ([x, y, z].take k)))) ∧ Below (w.heap.size + 1) (w.alloc (.cells #[.int .i64 x, .int .i64 y, .int .i64 z] 71)) wr) (fun _ i _ => 3 - (intOf i).toNat)
  case atStart => exact ⟨0, by omega, rfl, Lib.hid (by rw [List.take_zero, numsOf_nil, List.append_nil]; exact HB.out), Lib.hid (fun h => by omega), Below.refl _ _⟩
  case round =>
    obtain ⟨k, hk, rfl, HI, HO, hbk⟩ := hrel
    by_cases hlt : k < 3
    · have hlt' : (k : Int) < 3 := by omega
      obtain ⟨c, hc⟩ : ∃ c, c = [x, y, z].getD k 0 := ⟨_, rfl⟩
      have hck : wr.cell? ⟨w.heap.size, k, none⟩ = some (.int .i64 c) := (hbk.cell (p := ⟨w.heap.size, k, none⟩) (by simp)).trans (by rw [hc]; exact HC.out k hlt)
      obtain ⟨n, hn⟩ : ∃ n : Nat, n = u64 c := ⟨_, rfl⟩
      have hnz : IntKind.u64.wrap c = (n : Int) := by rw [hn, u64_wrap]
      have hnl : n < 18446744073709551616 := by rw [hn]; exact u64_lt c
      have HN := Lib.hid hn
      have HCC := Lib.hid hc
      clear hn hc
      have hsz := hbk.size
      go_wp2_with fail
      refine (num_any _ n 5 hnl (by omega) _ _ HI.out (by rw [List.length_append, numsOf_length, List.length_take]; simp; omega)).mono ?_
      rintro e w1 ⟨⟨v', rfl, ho⟩, hb1⟩
      have hE : l ++ numsOf 5 ([x, y, z].take k) ++ bytesOf n 5 = l ++ numsOf 5 ([x, y, z].take (k + 1)) := by
        rw [take_snoc [x, y, z] k (by simpa using hlt), numsOf_snoc, ← HCC.out, ← HN.out, List.append_assoc]
      rw [hE] at ho
      have HI2 := Lib.hid (own_bs ho)
      have HO2 := Lib.hid (show 0 < k + 1 → _ from fun _ => own_mono (b2 := w.heap.size) ho (by simp at hsz; omega))
      have hbk2 := hbk.trans (hb1.mono (by simp at hsz; omega))
      clear ho hE hck
      go_wp2_with fail
      go_roundw
      case rel => exact ⟨k + 1, by omega, by go_num, HI2, HO2, hbk2⟩
      case measure => simp [intOf]; omega
    · obtain rfl : k = 3 := by omega
      have ho := HO.out (by omega)
      obtain ⟨a9, c9, hv⟩ := own_form ho
      subst hv
      have hfin : Below w.heap.size w wr := (below_n1 w _).trans (hbk.mono (by omega))
      have HF := Lib.hid ho
      clear ho
      go_wp2
      go_ret
      exact ⟨⟨_, rfl, HF.out⟩, hfin⟩

end Go.Proofs.Ytgkfoiekminfmaa.Re
