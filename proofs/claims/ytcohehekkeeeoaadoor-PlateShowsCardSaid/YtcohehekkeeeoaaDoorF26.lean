/- Layer 21 (plate): bytes in threes, by the library's iterator. -/
import Derived.RangeFuncNested
import Derived.RangeFuncBound
import Derived.RangeFuncCalls
import Derived.RangeFuncLeaves
import Derived.Shelf.Abstract
import Derived.Shelf.RegionOpen
import Derived.WalkKit
import Derived.OwnWalkIn
import Derived.TacticsInMore
import Derived.LoopNIn
import Derived.LoopIn
import Derived.Sort.QuietIn
import Derived.Test.YtcohehekkeeeoaaDoorF23
namespace Go.Proofs.YtcohehekkeeeoaaDoor.Pg
open Go Go.RowKit Go.Shelf Go.Proofs.YtcohehekkeeeoaaDoor Go.Proofs.YtcohehekkeeeoaaDoor.Re Go.Proofs.YtcohehekkeeeoaaDoor.Au
set_option linter.unusedVariables false
set_option linter.unusedSimpArgs false

attribute [local go_sem] Oper.semAt_some

/-- two blocks lie as they lay -/
def Kb (bs bn : Nat) (W W' : World) : Prop := ∀ k, k = bs ∨ k = bn → k < W.heap.size → W'.heap[k]? = W.heap[k]?

theorem Kb.t {bs bn : Nat} {A B C : World} (h : Kb bs bn A B) (h' : Kb bs bn B C) : Kb bs bn A C := fun k hk hl => by
  have e := h k hk hl
  have hB : k < B.heap.size := by
    rcases Nat.lt_or_ge k B.heap.size with h1 | h1
    · exact h1
    · rw [Array.getElem?_eq_none h1, Array.getElem?_eq_getElem hl] at e
      cases e
  exact (h' k hk hB).trans e

theorem Kb.cell {bs bn : Nat} {A B : World} (h : Kb bs bn A B) {k : Nat} (hk : k = bs ∨ k = bn) {u : Value} (hc : A.cell? ⟨k, 0, none⟩ = some u) : B.cell? ⟨k, 0, none⟩ = some u := by
  rw [World.cell?_of_block (w := A) (h k hk (World.block_lt_of_cell? A _ hc))]
  exact hc

theorem Kb.b {bs bn : Nat} {w : World} (h1 : bs < w.heap.size) (h2 : bn < w.heap.size) (W : World) (l : Nat) (o o' : Obj) (hl : w.heap.size ≤ l) (h : W.heap[l]? = some o) (_ : o.isCells = false) (_ : o.isWalk = false) : Kb bs bn W (W.putObj l o') := fun k hk _ =>
  (grownBy_putObj' W l o').block k (by have := (Array.getElem?_eq_some_iff.1 h).1; omega) (fun e => by cases e; omega)

set_option maxRecDepth 100000 in
set_option maxHeartbeats 4000000 in
theorem chunk1_in (n : Nat) (hn : 1 ≤ n) (l bs bn : Nat) (ad : Addr) (cap K L : Nat) (hL : L = 3 * K) (hcap : L ≤ cap) (hLb : L ≤ 100000) (J Jx : Nat → World → Prop)
    (hY : ∀ k i W, J k W → k < K → i = 3 * k → YieldAt Fence.wide (n - 1) Tryd.prog l #[.slice (some (ad.add i)) 3 3] W fun e W' =>
      (e = .returned (.bool true) ∧ J (k + 1) W' ∧ Kb bs bn W W') ∨ (e = .returned (.bool false) ∧ Jx (k + 1) W'))
    (hJd : ∀ k W q, J k W → J k (W.drewN q))
    (W : World) (hs : W.cell? ⟨bs, 0, none⟩ = some (.slice (some ad) L cap)) (hc : W.cell? ⟨bn, 0, none⟩ = some (.int .i64 3)) (h0 : J 0 W) :
    CallsIn Fence.wide n Tryd.prog 73 #[.func (.yield l) #[] #[], .pointer (some ⟨bs, 0, none⟩), .pointer (some ⟨bn, 0, none⟩)] W fun e W' => (∃ v, e = .returned v) ∧
      (J K W' ∨ ∃ k, k ≤ K ∧ Jx k W') := by
  refine callsIn_of_wp Tryd.func73 rfl trivial ?_ rfl
  simp only [Tryd.ntmps73, List.size_toArray, List.length_cons, List.length_nil, Nat.reduceAdd, Nat.reduceSub, Array.replicate_succ, Array.replicate_zero, List.push_toArray, List.append_toArray, List.nil_append, List.cons_append]
  have HL := Lib.hid hL
  clear hL
  gi_wp2
  gi_loopw [4] (fun i wr => ∃ k i3 : Nat, k ≤ K ∧ Hid (i3 = 3 * k) ∧ i3 ≤ L ∧ i = .int .i64 i3 ∧ J k wr ∧ wr.cell? ⟨bs, 0, none⟩ = some (.slice (some ad) L cap) ∧ wr.cell? ⟨bn, 0, none⟩ = some (.int .i64 3))
    (fun i _ => L - (intOf i).toNat)
  case atStart => exact ⟨0, 0, Nat.zero_le _, Lib.hid rfl, Nat.zero_le _, rfl, h0, hs, hc⟩
  case round =>
    obtain ⟨k, i3, hk, HK, hi3, rfl, hJs, hs1, hc1⟩ := hrel
    by_cases hlt : i3 < L
    · have hlt' : (i3 : Int) < L := by omega
      have hkK : k < K := by have := HL.out; have := HK.out; omega
      have h3 : i3 + 3 ≤ L := by have := HL.out; have := HK.out; omega
      have hne : ¬ cap = i3 := by omega
      have h3' : (3 : Int) ≤ ((L - i3 : Nat) : Int) := by omega
      gi_wp2_with fail
      gi_quiet (fail)
      rw [Int.min_eq_left h3']
      obtain ⟨w1, hw1⟩ : ∃ y, wr.drewN nq = y := ⟨_, rfl⟩
      have hJ1 : J k w1 := by rw [← hw1]; exact hJd _ _ _ hJs
      have hs2 : w1.cell? ⟨bs, 0, none⟩ = some (.slice (some ad) L cap) := by rw [← hw1]; exact hs1
      have hc2 : w1.cell? ⟨bn, 0, none⟩ = some (.int .i64 3) := by rw [← hw1]; exact hc1
      rw [hw1]
      clear hw1 hJs hs1 hc1
      obtain ⟨fn, tmps, assign, body, hy, hR⟩ := hY k i3 w1 hJ1 hkK HK.out
      gi_wp2_with fail
      refine hR.mono ?_
      rintro e W3 (⟨rfl, hJ3, hk3⟩ | ⟨rfl, hJx3⟩)
      · have hs3 : W3.cell? ⟨bs, 0, none⟩ = some (.slice (some ad) L cap) := hk3.cell (.inl rfl) hs2
        have hc3 : W3.cell? ⟨bn, 0, none⟩ = some (.int .i64 3) := hk3.cell (.inr rfl) hc2
        have HJ3 := Lib.hid hJ3
        clear hk3 hJ3 hy hR
        gi_wp2
        go_roundw
        case rel => exact ⟨k + 1, i3 + 3, by omega, Lib.hid (by have := HK.out; omega), h3, by go_num, HJ3.out, hs3, hc3⟩
        case measure => simp [intOf]; omega
      · have HJ3 := Lib.hid hJx3
        clear hJx3 hy hR
        gi_wp2
        refine bodyPost_ret (results_none rfl _ _ _) rfl ?_
        exact ⟨⟨_, rfl⟩, .inr ⟨k + 1, by omega, HJ3.out⟩⟩
    · obtain rfl : i3 = L := by omega
      gi_wp2
      go_end0
      exact ⟨⟨_, rfl⟩, .inl (by rw [show K = k by have := HL.out; have := HK.out; omega]; exact hJs)⟩

theorem grown_drewN (W : World) (k : Nat) (row : Option Nat) : W.grownBy (W.drewN k) row := ⟨rfl, rfl, rfl, Nat.le_refl _, fun _ _ _ => rfl⟩

/-- the first k of K -/
def fs (K k : Nat) : List (Fin K) := (List.finRange K).take k

theorem fs_succ {K k : Nat} (h : k < K) : fs K (k + 1) = fs K k ++ [⟨k, h⟩] := by
  unfold fs
  rw [List.take_add_one]
  simp [h]

theorem fs_len {K k : Nat} (h : k ≤ K) : (fs K k).length = k := by simp [fs, h]

/-- the library's threes, as a caller's loop takes them -/
theorem chunk_stops (n : Nat) (hn : 1 ≤ n) (bs bn : Nat) (ad : Addr) (cap K L : Nat) (hL : L = 3 * K) (hcap : L ≤ cap) (hLb : L ≤ 100000) (w : World) (hs : w.cell? ⟨bs, 0, none⟩ = some (.slice (some ad) L cap)) (hc : w.cell? ⟨bn, 0, none⟩ = some (.int .i64 3)) :
    SeqStopsK Fence.wide n Tryd.prog 73 #[.pointer (some ⟨bs, 0, none⟩), .pointer (some ⟨bn, 0, none⟩)] (fun x : Fin K => #[Value.slice (some (ad.add (3 * x.val))) 3 3]) (Kb bs bn) (fun ys => ys = fs K K) (fun pre => ∃ k, k ≤ K ∧ pre = fs K k) K w := fun l J Jx W hW hJ hJx hY h0 => by
  have h := chunk1_in n hn l bs bn ad cap K L hL hcap hLb (fun k => J (fs K k)) (fun k => Jx (fs K k))
    (fun k i W1 hj hk hi => by
      subst hi
      have := hY (fs K k) ⟨k, hk⟩ W1 hj (by rw [fs_len (by omega)]; exact hk)
      rw [← fs_succ hk] at this
      exact this)
    (fun k W1 q h => hJ _ W1 _ none h (grown_drewN W1 q none) (fun _ e => by cases e)) W
    ((hW.cell (p := ⟨bs, 0, none⟩) (World.block_lt_of_cell? w _ hs)).trans hs) ((hW.cell (p := ⟨bn, 0, none⟩) (World.block_lt_of_cell? w _ hc)).trans hc) h0
  exact h.mono fun e W' ⟨he, hr⟩ => ⟨he, hr.elim (fun h => .inl ⟨_, rfl, h⟩) (fun ⟨k, hk, h⟩ => .inr ⟨_, ⟨k, hk, rfl⟩, h⟩)⟩

set_option maxHeartbeats 2000000 in
set_option maxRecDepth 100000 in
theorem chunk_any (n : Nat) (a : Option Addr) (len cap : Nat) (w : World) :
    CallsIn Fence.wide n Tryd.prog 56 #[.slice a len cap, .int .i64 3] w fun e w' => e = .returned (.func (.func 73) #[] #[.pointer (some ⟨w.heap.size, 0, none⟩), .pointer (some ⟨w.heap.size + 1, 0, none⟩)]) ∧ w' = (w.alloc (.cells #[.slice a len cap] 56)).alloc (.cells #[.int .i64 3] 3) := by
  refine callsIn_of_wp Tryd.func56 rfl trivial ?_ rfl
  simp only [Tryd.ntmps56, List.size_toArray, List.length_cons, List.length_nil, Nat.reduceAdd, Nat.reduceSub, Array.replicate_succ, Array.replicate_zero, List.push_toArray, List.append_toArray, List.nil_append, List.cons_append]
  gi_wp2
  go_ret
  exact ⟨rfl, rfl⟩

end Go.Proofs.YtcohehekkeeeoaaDoor.Pg
