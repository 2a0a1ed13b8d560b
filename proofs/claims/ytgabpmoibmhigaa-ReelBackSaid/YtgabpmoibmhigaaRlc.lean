/- Layer 7: the document's bytes of a point and of a blob: contracts. -/
import Derived.Test.YtgabpmoibmhigaaRlb
namespace Go.Proofs.Ytgabpmoibmhigaa.Re
open Go.RowKit Go.Proofs.Ytgabpmoibmhigaa Go.Proofs.Ytgabpmoibmhigaa.Rp
set_option linter.unusedVariables false

theorem own_mono {w : World} {b1 b2 : Nat} {e : TypeId} {size n : Nat} {v : Value} {xs : List Value} (h : w.ownsRow b1 e size v n xs) (hb : b2 ≤ b1) : w.ownsRow b2 e size v n xs := by
  refine ⟨h.1, ?_⟩
  rcases h.2 with h | ⟨q, cap, cur, h1, h2, h3⟩
  · exact .inl h
  · exact .inr ⟨q, cap, cur, h1, by omega, h3⟩

theorem three_at (x y z : Int) (w : World) (t : TypeId) (k : Nat) (hk : k < 3) : (w.alloc (.cells #[.int .i64 x, .int .i64 y, .int .i64 z] t)).cell? ⟨w.heap.size, k, none⟩ = some (.int .i64 ([x, y, z].getD k 0)) := by
  match k, hk with
  | 0, _ => go_simp
  | 1, _ => go_simp
  | 2, _ => go_simp

set_option maxHeartbeats 2000000 in
theorem dvec_any (l : List UInt8) (x y z : Int) (v : Value) (w : World) (hb : Bs w v l) (hl : l.length + 100 ≤ 140737488355328) :
    Calls Try.prog 45 #[v, .agg #[.int .i64 x, .int .i64 y, .int .i64 z]] w fun e w' => (∃ v', e = .returned v' ∧ w'.ownsRow w.heap.size 5 1 v' (l ++ numsOf 5 [x, y, z]).length (vals (l ++ numsOf 5 [x, y, z]))) ∧ Below w.heap.size w w' := by
  have HB := Lib.hid (hb.on (below_n1 w (.cells #[.int .i64 x, .int .i64 y, .int .i64 z] 30)))
  have HC := Lib.hid (three_at x y z w 30)
  clear hb
  go_enter Try.func45, Try.ntmps45
  go_wp2_with fail
  go_loopw [0, 5] (fun b i wr => ∃ k : Nat, k ≤ 3 ∧ i = .int .i64 k ∧ Hid (Bs wr b (l ++ numsOf 5 ([x, y, z].take k))) ∧ Hid (0 < k → wr.ownsRow w.heap.size 5 1 b (l ++ numsOf 5 ([x, y, z].take k)).length (vals (l ++ numsOf 5 ([x, y, z].take k)))) ∧ Below (w.heap.size + 1) (w.alloc (.cells #[.int .i64 x, .int .i64 y, .int .i64 z] 30)) wr) (fun _ i _ => 3 - (intOf i).toNat)
  case atStart => exact ⟨0, by omega, rfl, Lib.hid (by rw [List.take_zero, numsOf_nil, List.append_nil]; exact HB.out), Lib.hid (fun h => by omega), Below.refl _ _⟩
  case round =>
    obtain ⟨k, hk, rfl, HI, HO, hbk⟩ := hrel
    by_cases hlt : k < 3
    · have hlt' : (k : Int) < 3 := by omega
      obtain ⟨c, hc⟩ : ∃ c, c = [x, y, z].getD k 0 := ⟨_, rfl⟩
      have hck : wr.cell? ⟨w.heap.size, k, none⟩ = some (.int .i64 c) := (hbk.cell (p := ⟨w.heap.size, k, none⟩) (by simp)).trans (by rw [hc]; exact HC.out k hlt)
      obtain ⟨n, hn⟩ : ∃ n : Nat, n = u64 c := ⟨_, rfl⟩
      have hnz : IntKind.u64.wrap c = (n : Int) := by rw [hn, u64_wrap]
      have hnl : n < 18446744073709551616 := by rw [hn]; exact u64_lt c
      have HN := Lib.hid hn
      have HCC := Lib.hid hc
      clear hn hc
      have hsz := hbk.size
      go_wp2_with fail
      refine (num_any _ n 5 hnl (by omega) _ _ HI.out (by rw [List.length_append, numsOf_length, List.length_take]; simp; omega)).mono ?_
      rintro e w1 ⟨⟨v', rfl, ho⟩, hb1⟩
      have hE : l ++ numsOf 5 ([x, y, z].take k) ++ bytesOf n 5 = l ++ numsOf 5 ([x, y, z].take (k + 1)) := by
        rw [take_snoc [x, y, z] k (by simpa using hlt), numsOf_snoc, ← HCC.out, ← HN.out, List.append_assoc]
      rw [hE] at ho
      have HI2 := Lib.hid (own_bs ho)
      have HO2 := Lib.hid (show 0 < k + 1 → _ from fun _ => own_mono (b2 := w.heap.size) ho (by simp at hsz; omega))
      have hbk2 := hbk.trans (hb1.mono (by simp at hsz; omega))
      clear ho hE hck
      go_wp2_with fail
      go_roundw
      case rel => exact ⟨k + 1, by omega, by go_num, HI2, HO2, hbk2⟩
      case measure => simp [intOf]; omega
    · obtain rfl : k = 3 := by omega
      have ho := HO.out (by omega)
      obtain ⟨a9, c9, hv⟩ := own_form ho
      subst hv
      have hfin : Below w.heap.size w wr := (below_n1 w _).trans (hbk.mono (by omega))
      have HF := Lib.hid ho
      clear ho
      go_wp2
      go_ret
      exact ⟨⟨_, rfl, HF.out⟩, hfin⟩

set_option maxHeartbeats 2000000 in
theorem dblob_some (l p : List UInt8) (ad : Addr) (c : Nat) (v : Value) (w : World) (hb : Bs w v l) (hp : ∀ j u, (vals p)[j]? = some u → w.cell? (ad.add j) = some u) (hl : l.length + p.length + 100 ≤ 140737488355328) :
    Calls Try.prog 46 #[v, .slice (some ad) p.length c] w fun e w' => (∃ v', e = .returned v' ∧ w'.ownsRow w.heap.size 5 1 v' (l ++ bytesOf p.length 4 ++ p).length (vals (l ++ bytesOf p.length 4 ++ p))) ∧ Below w.heap.size w w' := by
  obtain ⟨i0, hi, hz0, hz1, hz2⟩ := info_parts infoByte
  obtain ⟨n, hn⟩ : ∃ n, n = p.length := ⟨_, rfl⟩
  rw [← hn] at hl ⊢
  have HN := Lib.hid hn
  have HP := Lib.hid hp
  have hnz : IntKind.u64.wrap (n : Int) = (n : Int) := by rw [IntKind.wrap_u64]; omega
  clear hn hp
  go_enter Try.func46, Try.ntmps46
  go_wp2_with fail
  refine (num_any l n 4 (by omega) (by omega) _ _ hb (by omega)).mono ?_
  rintro e w1 ⟨⟨v1, rfl, ho⟩, hb1⟩
  have HO := Lib.hid ho
  have hs1 := hb1.size
  have hp1 : ∀ j u, (vals p)[j]? = some u → w1.cell? (ad.add j) = some u := fun j u hu => by
    have := HP.out j u hu
    rw [hb1.cell (World.block_lt_of_cell? w _ this)]; exact this
  have HP1 := Lib.hid hp1
  clear ho hp1
  go_wp2_with (first | (at_builtin; refine wpList_append_own _ rfl _ _ 28 rfl w.heap.size 5 i0 (.int .u8 0) 1 1 Try.underlying28 hi hz0 hz1 hz2 rfl (by decide) _ _ _ rfl HO.out ad n c (vals p) rfl ?c1 HP1.out (vals_one p) ?c3 ?c4 hs1 ?_))
  case c1 => rw [vals_length, HN.out]; simp
  case c3 => simp only [List.length_append, bytesOf_length]; unfold maxLen; omega
  case c4 => simp only [List.length_append, bytesOf_length]; omega
  intro v2 w2 hown hgrow _
  have hfin : Below w.heap.size w w2 := hb1.grown hgrow hs1 (fun q hq => (HO.out.lt q hq).1)
  have HF := Lib.hid (show w2.ownsRow w.heap.size 5 1 v2 (l ++ bytesOf n 4 ++ p).length (vals (l ++ bytesOf n 4 ++ p)) by
    rw [vals_append, List.length_append, ← HN.out]; simpa using hown)
  obtain ⟨a9, c9, hv⟩ := own_form HF.out
  subst hv
  clear hown hgrow
  go_wp2
  go_ret
  exact ⟨⟨_, rfl, HF.out⟩, hfin⟩

set_option maxHeartbeats 2000000 in
theorem dblob_none (l : List UInt8) (v : Value) (w : World) (hb : Bs w v l) (hl : l.length + 100 ≤ 140737488355328) :
    Calls Try.prog 46 #[v, .slice none 0 0] w fun e w' => (∃ v', e = .returned v' ∧ w'.ownsRow w.heap.size 5 1 v' (l ++ bytesOf 0 4).length (vals (l ++ bytesOf 0 4))) ∧ Below w.heap.size w w' := by
  obtain ⟨i0, hi, hz0, hz1, hz2⟩ := info_parts infoByte
  have hnz : IntKind.u64.wrap (0 : Int) = ((0 : Nat) : Int) := by rw [IntKind.wrap_u64]; rfl
  go_enter Try.func46, Try.ntmps46
  go_wp2_with fail
  refine (num_any l 0 4 (by omega) (by omega) _ _ hb (by omega)).mono ?_
  rintro e w1 ⟨⟨v1, rfl, ho⟩, hb1⟩
  have HO := Lib.hid ho
  clear ho
  go_wp2_with (first | (at_builtin; refine wpList_append_own_none rfl _ _ 28 rfl w.heap.size 5 i0 1 Try.underlying28 hi _ _ _ rfl HO.out rfl ?_))
  obtain ⟨a9, c9, hv⟩ := own_form HO.out
  subst hv
  go_wp2
  go_ret
  exact ⟨⟨_, rfl, HO.out⟩, hb1⟩

theorem dblob_any (l p : List UInt8) (a : Option Addr) (n c : Nat) (v : Value) (w : World) (hb : Bs w v l) (hp : Bs w (.slice a n c) p) (hl : l.length + p.length + 100 ≤ 140737488355328) :
    Calls Try.prog 46 #[v, .slice a n c] w fun e w' => (∃ v', e = .returned v' ∧ w'.ownsRow w.heap.size 5 1 v' (l ++ bytesOf p.length 4 ++ p).length (vals (l ++ bytesOf p.length 4 ++ p))) ∧ Below w.heap.size w w' := by
  rcases hp with ⟨h, rfl⟩ | ⟨ad, cap, h, hp⟩
  · rw [h, List.append_nil]
    exact dblob_none l v w hb (by simp at hl; omega)
  · rw [h]; exact dblob_some l p ad cap v w hb hp hl
end Go.Proofs.Ytgabpmoibmhigaa.Re
