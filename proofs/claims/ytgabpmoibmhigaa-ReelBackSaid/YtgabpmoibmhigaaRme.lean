/- Layer 7: the contract of the document's own reader's sum. -/
import Derived.Test.YtgabpmoibmhigaaRmd
namespace Go.Proofs.Ytgabpmoibmhigaa.Re
open Go.RowKit Go.Proofs.Ytgabpmoibmhigaa Go.Proofs.Ytgabpmoibmhigaa.Rp
set_option linter.unusedVariables false

/-- the sum's bytes behind so many of them -/
def part (q : List UInt8) (k : Nat) : List UInt8 := q.take k ++ List.replicate (32 - k) 0
theorem part_set (q : List UInt8) (k : Nat) (hk : k < q.length) (h32 : k < 32) : (vals (part q k)).toArray.setIfInBounds k (.int .u8 (q[k].toNat : Int)) = (vals (part q (k + 1))).toArray := by
  have h1 : (part q k).set k q[k] = part q (k + 1) := by
    unfold part
    rw [List.set_append_right _ _ (by simp; omega), List.length_take, Nat.min_eq_left (by omega), Nat.sub_self, show 32 - k = (32 - (k + 1)) + 1 by omega, List.replicate_succ, List.set_cons_zero, List.take_succ_eq_append_getElem hk, List.append_assoc]
    rfl
  rw [← h1]
  simp [vals, List.map_set]
theorem part_cell (q : List UInt8) (k : Nat) (hk : k ≤ q.length) (h32 : k < 32) : (vals (part q k)).toArray[k]? = some (.int .u8 0) := by
  unfold part vals
  rw [List.getElem?_toArray, List.getElem?_map, List.getElem?_append_right (by simp; omega), List.length_take, Nat.min_eq_left hk, Nat.sub_self, List.getElem?_replicate, if_pos (by omega)]
  rfl
theorem part_zero (q : List UInt8) : part q 0 = List.replicate 32 0 := by simp [part]
theorem part_all (s : St) : part (takeS s 32).1 (takeS s 32).1.length = (sumS s).1 := by
  rcases takeS_all s 32 with h | h
  · unfold sumS part; rw [if_pos h, h]; simp
  · have hn : (takeS s 32).1 ≠ [] := fun e => by rw [e] at h; simp at h
    unfold sumS part; rw [if_neg hn, h, Nat.sub_self, List.replicate_zero, List.append_nil, List.take_of_length_le (by omega)]

theorem MAt.near {g N : Nat} {a : Option Addr} {n c : Nat} {lb : List UInt8} {s : St} {w w' : World} (h : MAt g N a n c lb s w) (hb : Below (g + 1) w w') : MAt g N a n c lb s w' := by
  obtain ⟨h1, h2, h3, h4, h5, h6, h7, h8, p, h9, h10, h11⟩ := h
  refine ⟨h1, Nat.lt_of_lt_of_le h2 hb.size, fun j => (hb.frozen (p := ⟨g, j, none⟩) (Nat.lt_succ_self g)).trans (h3 j), (hb.cell (p := ⟨g, 0, none⟩) (Nat.lt_succ_self g)).trans h4, (hb.cell (p := ⟨g, 2, none⟩) (Nat.lt_succ_self g)).trans h5, ?_, h7, h8, p, h9, h10, (hb.cell (p := ⟨g, 1, none⟩) (Nat.lt_succ_self g)).trans h11⟩
  rcases h6 with h | ⟨ad, cap, h, hc⟩
  · exact .inl h
  · cases h
    refine .inr ⟨ad, c, rfl, fun j v hv => ?_⟩
    have hne := h8 ad rfl (fun e => by subst e; simp [vals] at hv)
    rw [hb.cell (p := ad.add j) (by rw [ad_block]; omega)]
    exact hc j v hv

set_option maxRecDepth 100000 in
set_option maxHeartbeats 4000000 in
theorem msum_any (g N : Nat) (a : Option Addr) (n c : Nat) (lb : List UInt8) (s : St) (w : World) (h : MAt g N a n c lb s w) :
    Calls Try.prog 52 #[.pointer (some ⟨g, 0, none⟩)] w fun e w' => e = .returned (.agg (vals (sumS s).1).toArray) ∧ MAt g N a n c lb (sumS s).2 w' ∧ Aft g w.heap.size w w' := by
  have HP := Lib.hid h
  have hg : g < w.heap.size := h.err.2.2.2
  clear h
  obtain ⟨L, hL⟩ : ∃ L, L = (vals (sumS s).1).toArray := ⟨_, rfl⟩
  have hLs : L.size = 32 := by rw [hL]; simp [vals_length, sumS_len]
  have hL1 : L.all (·.oneCell') = true := by rw [hL]; exact vals_all _
  rw [← hL]
  have HL := Lib.hid hL
  have HSZ := Lib.hid (show (Try.prog.info? 31).map (·.size) = some L.size by rw [hLs]; kernel_rfl)
  have HLZ := Lib.hid (show (vals (List.replicate 32 0)).toArray.size = L.size by rw [hLs]; simp [vals_length])
  clear hL hLs
  go_enter Try.func52, Try.ntmps52
  go_wp2_with fail
  refine (raw_lit g N a n c lb s 32 32 rfl (by omega) _ (HP.out.on (below_n2 _ _ _))).mono ?_
  rintro e w1 ⟨⟨pa, m, pc, rfl, hm, HM, ho⟩, hr, hA⟩
  have hs1 : w.heap.size + 2 ≤ w1.heap.size := by have := hA.size; simp at this; omega
  have HD0 := Lib.hid (show w1.heap[w.heap.size + 1]? = some (.cells (vals (part (takeS s 32).1 0)).toArray 31) by
    rw [part_zero]
    exact hA.other _ _ _ _ (by omega) (by decide) (heap_last2 _ _ _))
  have HR0 := Lib.hid (show w1.heap[w.heap.size]? = some (.cells (vals (List.replicate 32 0)).toArray 31) by
    refine hA.other _ _ _ _ (by omega) (by decide) ?_
    rw [Below.heap_alloc _ _ _ (by simp)]; exact heap_alloc_last _ _)
  have HA1 := Lib.hid ((Aft.of (g := g) (base := w.heap.size) (below_n2 w _ _)).trans (hA.mono (by simp; omega)))
  have HR1 := Lib.hid hr
  have HO1 := Lib.hid (own_mono (b2 := w.heap.size + 2) ho (by simp))
  obtain ⟨q, hq⟩ : ∃ q, q = (takeS s 32).1 := ⟨_, rfl⟩
  have HQ := Lib.hid (show part q q.length = (sumS s).1 by rw [hq]; exact part_all s)
  rw [← hq] at HM HD0 HO1
  clear hA hr ho hq
  go_wp2_with fail
  go_loopw [5] (fun i wr => ∃ k : Nat, k ≤ m ∧ i = .int .i64 k ∧ Hid (MAt g N a n c lb (takeS s 32).2 wr) ∧ Hid (Aft g w.heap.size w wr) ∧ w.heap.size + 2 ≤ wr.heap.size ∧
      Hid (wr.heap[w.heap.size + 1]? = some (.cells (vals (part q k)).toArray 31)) ∧ Hid (wr.heap[w.heap.size]? = some (.cells (vals (List.replicate 32 0)).toArray 31)) ∧
      Hid (wr.ownsRow (w.heap.size + 2) 5 1 (.slice pa m pc) q.length (vals q))) (fun i _ => m - (intOf i).toNat)
  case atStart => exact ⟨0, by omega, rfl, HR1, HA1, hs1, HD0, HR0, HO1⟩
  case round =>
    obtain ⟨k, hk, rfl, HR, HA, hsz, HD, HZ, HO⟩ := hrel
    by_cases hlt : k < m
    · have hlt' : (k : Int) < m := by omega
      have hkq : k < q.length := by have := HM.out; omega
      have h32 : k < 32 := by omega
      have h32' : (k : Int) < 32 := by omega
      obtain ⟨ad, rfl, hc⟩ := bs_cell (own_bs HO.out) hkq
      obtain ⟨b, hb⟩ : ∃ b, b = q[k] := ⟨_, rfl⟩
      rw [← hb] at hc
      have c0 : wr.cell? ⟨w.heap.size + 1, k, none⟩ = some (.int .u8 0) := by rw [cell_of_row _ _ _ _ _ _ HD.out]; exact part_cell q k (by omega) h32
      have f0 : wr.frozen? ⟨w.heap.size + 1, k, none⟩ = false := frozen_of_row _ _ _ _ _ HD.out
      have HD2 := Lib.hid (show (wr.setCell ⟨w.heap.size + 1, k, none⟩ (.int .u8 (b.toNat : Int))).heap[w.heap.size + 1]? = some (.cells (vals (part q (k + 1))).toArray 31) by
        rw [heap_setCell_same _ _ _ _ _ _ HD.out, hb, part_set q k hkq h32])
      have HZ2 := Lib.hid (show (wr.setCell ⟨w.heap.size + 1, k, none⟩ (.int .u8 (b.toNat : Int))).heap[w.heap.size]? = some (.cells (vals (List.replicate 32 0)).toArray 31) by
        rw [Below.heap_setCell _ _ _ _ (by show w.heap.size ≠ w.heap.size + 1; omega)]; exact HZ.out)
      have HO2 := Lib.hid (own_setCell_far HO.out (b := w.heap.size + 1) (by omega) k (.int .u8 (b.toNat : Int)))
      have HR2 := Lib.hid (HR.out.setFar (b := w.heap.size + 1) (by omega) k (.int .u8 (b.toNat : Int)))
      have HA2 := Lib.hid (HA.out.setNew (b := w.heap.size + 1) (by omega) (by omega) k (.int .u8 (b.toNat : Int)))
      clear hb hkq
      go_wp2_with fail
      go_roundw
      case rel => exact ⟨k + 1, by omega, by go_num, HR2, HA2, by simpa using hsz, HD2, HZ2, HO2⟩
      case measure => simp [intOf]; omega
    · obtain rfl : k = m := by omega
      have HC := Lib.hid (show wr.heap[w.heap.size + 1]? = some (.cells L 31) by rw [HL.out, ← HQ.out, ← HM.out]; exact HD.out)
      clear HD
      go_wp2_with (first | (with_reducible refine wpList_load_row rfl 31 (.tmp 3) rfl (w.heap.size + 1) rfl 31 L (0, 0) _ HC.out Try.underlying31 rfl HSZ.out ?_) | (with_reducible refine wpList_store_row rfl 31 (.tmp 2) (.tmp 20) rfl wr _ L w.heap.size 31 HZ.out rfl rfl HSZ.out HLZ.out hL1 ?_))
      have hfin : (wr.setRow w.heap.size L).heap[w.heap.size]? = some (.cells L 31) := setRow_heap wr w.heap.size _ _ _ _ HZ.out
      have hR4 := HR.out.near (below_setRow (Below.refl (g + 1) wr) (show g + 1 ≤ w.heap.size from hg) L)
      have hA4 := HA.out.thenBelow (below_setRow (Below.refl w.heap.size wr) (Nat.le_refl _) L) (Nat.le_refl _)
      exact bodyPost_ret (v := .agg L) (results_cell_row (P := Try.prog) Try.results52 _ _ w.heap.size 31 L (0, 0) _ rfl hfin Try.underlying31 rfl HSZ.out) rfl ⟨rfl, hR4, hA4⟩
end Go.Proofs.Ytgabpmoibmhigaa.Re
