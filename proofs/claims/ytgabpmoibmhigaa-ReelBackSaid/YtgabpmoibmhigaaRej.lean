/- Layer 7: the contract of a reader's sum. -/
import Derived.Test.YtgabpmoibmhigaaRei
import Derived.Test.YtgabpmoibmhigaaRsn
import Derived.Laws.CopyOwn
import Derived.Deep.DeepCutAuto
namespace Go.Proofs.Ytgabpmoibmhigaa.Re
open Go.RowKit Go.Proofs.Ytgabpmoibmhigaa Go.Proofs.Ytgabpmoibmhigaa.Rp

abbrev Z32 : Array Value := #[.int .u8 0, .int .u8 0, .int .u8 0, .int .u8 0, .int .u8 0, .int .u8 0, .int .u8 0, .int .u8 0, .int .u8 0, .int .u8 0, .int .u8 0, .int .u8 0, .int .u8 0, .int .u8 0, .int .u8 0, .int .u8 0, .int .u8 0, .int .u8 0, .int .u8 0, .int .u8 0, .int .u8 0, .int .u8 0, .int .u8 0, .int .u8 0, .int .u8 0, .int .u8 0, .int .u8 0, .int .u8 0, .int .u8 0, .int .u8 0, .int .u8 0, .int .u8 0]

theorem z32_vals : Z32 = (vals (List.replicate 32 0)).toArray := rfl


theorem takeS_all (s : St) (n : Nat) : (takeS s n).1 = [] ∨ (takeS s n).1.length = n := by
  unfold takeS
  split
  · exact .inl rfl
  · split
    · exact .inl rfl
    · right; simp; omega
theorem sum_cells (s : St) : splice (vals (List.replicate 32 0)) 0 (vals (takeS s 32).1) = vals (sumS s).1 := by
  rcases takeS_all s 32 with h | h
  · unfold sumS; rw [if_pos h, h]; simp [splice, vals]
  · have hn : (takeS s 32).1 ≠ [] := fun e => by rw [e] at h; simp at h
    unfold sumS; rw [if_neg hn]
    unfold splice
    rw [List.take_zero, List.nil_append, vals_length, h, List.drop_eq_nil_of_le (by rw [vals_length]; simp), List.append_nil]
theorem sumS_len (s : St) : (sumS s).1.length = 32 := by
  unfold sumS
  rcases takeS_all s 32 with h | h
  · rw [if_pos h]; simp
  · rw [if_neg (fun e => by rw [e] at h; simp at h)]; exact h
theorem vals_all (l : List UInt8) : (vals l).toArray.all (·.oneCell') = true := all_oneCell_toArray (vals_one l)

theorem Aft.thenBelow {g base D : Nat} {a w w' : World} (h : Aft g base a w) (hb : Below D w w') (hD : a.heap.size ≤ D) : Aft g base a w' :=
  ⟨hb.os.trans h.os, hb.tape.trans h.tape, hb.output.trans h.output, Nat.le_trans h.size hb.size, fun k h1 h2 h3 => (hb.block k (by omega)).trans (h.block k h1 h2 h3),
    fun k cs t fr h1 h2 h3 => by
      have := lt_of_heap h3
      exact (hb.block k (by omega)).trans (h.other k cs t fr h1 h2 h3)⟩

set_option maxHeartbeats 2000000 in
theorem rsum_any (p : Value) (g : Nat) {B : Nat} (s : St) (w : World) (h : RP p g B s w) (hg : g < w.heap.size) (hB : B ≤ w.heap.size) :
    Calls Try.prog 28 #[p] w fun e w' => e = .returned (.agg (vals (sumS s).1).toArray) ∧ RP p g B (sumS s).2 w' ∧ Aft g w.heap.size w w' := by
  have HP := Lib.hid h
  clear h
  obtain ⟨L, hL⟩ : ∃ L, L = (vals (sumS s).1).toArray := ⟨_, rfl⟩
  have hLs : L.size = 32 := by rw [hL]; simp [vals_length, sumS_len]
  have hL1 : L.all (·.oneCell') = true := by rw [hL]; exact vals_all _
  rw [← hL]
  have HL := Lib.hid hL
  have HLS := Lib.hid hLs
  have HSZ := Lib.hid (show (Try.prog.info? 65).map (·.size) = some L.size by rw [hLs]; kernel_rfl)
  have HLZ := Lib.hid (show (vals (List.replicate 32 0)).toArray.size = L.size by rw [hLs]; simp [vals_length])
  clear hL hLs
  go_enter Try.func28, Try.ntmps28
  go_upto_region 2 with (with_reducible refine wpList_store_new rfl 65 (.tmp 3) (.tmp 4) rfl (w.alloc (.cells Z32 65)) Z32 Z32 (w.heap.size + 1) ?q1 rfl rfl (by kernel_rfl) rfl (by decide +kernel) ?_)
  case q1 => simp
  obtain ⟨W1, hW1⟩ : ∃ W1, W1 = (w.alloc (.cells Z32 65)).alloc (.cells Z32 65) := ⟨_, rfl⟩
  rw [← hW1]
  have HD := Lib.hid (show W1.heap[w.heap.size + 1]? = some (.cells (vals (List.replicate 32 0)).toArray 65) by rw [hW1, ← z32_vals]; exact heap_last2 _ _ _)
  have HR := Lib.hid (show W1.heap[w.heap.size]? = some (.cells (vals (List.replicate 32 0)).toArray 65) by rw [hW1, ← z32_vals, Below.heap_alloc _ _ _ (by simp)]; exact heap_alloc_last _ _)
  have hP1 : RP p g B s W1 := by rw [hW1]; exact HP.out.new (below_n2 _ _ _)
  have hA1 : Aft g w.heap.size w W1 := by rw [hW1]; exact Aft.of (below_n2 _ _ _)
  have hs1 : w.heap.size + 2 ≤ W1.heap.size := by rw [hW1]; simp
  clear hW1
  go_simp
  refine wp_region_any (by kernel_rfl) ?_
  refine wpAny_take (i := 0) (v := ?_) rfl (by kernel_rfl) (by kernel_rfl) (by kernel_rfl) (fun _ _ _ h => h) (Or.inl ⟨by kernel_rfl, by (intro w; go_simp; try with_reducible rfl)⟩) ?_
  go_simp
  refine wpAny_take (i := 1) (v := ?_) rfl (by kernel_rfl) (by kernel_rfl) (by kernel_rfl) (fun _ _ _ h => h) (Or.inl ⟨by kernel_rfl, by (intro w; go_simp; try with_reducible rfl)⟩) ?_
  go_simp
  refine wpAny_ready (rs := [2]) (by kernel_rfl) (by simp) ?_
  refine AllReady.cons rfl (fun K hK => ?_) AllReady.nil
  go_simp
  go_wp2_with (go_at_call 58; refine (take_lit p g s 32 32 rfl (by omega) _ (hP1.new ((Below.refl _ _).drew))).mono ?_; rintro e w2 ⟨⟨a, m, c, rfl, HM, hm, hbs⟩, hr2, ha2⟩)
  have hs2 : W1.heap.size ≤ w2.heap.size := ha2.size
  have HD2 : w2.heap[w.heap.size + 1]? = some (.cells (vals (List.replicate 32 0)).toArray 65) := ha2.other _ _ _ _ (by omega) (by decide) HD.out
  have HR2 := Lib.hid (show w2.heap[w.heap.size]? = some (.cells (vals (List.replicate 32 0)).toArray 65) from ha2.other _ _ _ _ (by omega) (by decide) HR.out)
  have hA2 : Aft g w.heap.size w w2 := hA1.drew.trans (ha2.mono (by show _ ≤ W1.heap.size; omega))
  obtain ⟨q, hq⟩ : ∃ q, q = (takeS s 32).1 := ⟨_, rfl⟩
  rw [← hq] at hbs HM
  have HQ := Lib.hid hq
  clear hq
  refine wpAny_ready (rs := [3]) (by kernel_rfl) (by simp) ?_
  refine AllReady.cons rfl (fun K hK => ?_) AllReady.nil
  refine step_copy_splice rfl (.tmp 5) (.tmp 7) 28 28 rfl 5 Try.underlying28 (by kernel_rfl) (some ⟨w.heap.size + 1, 0, none⟩) a 32 32 m c rfl rfl (w.heap.size + 1) 0 (vals (List.replicate 32 0)) 65 HD2 (vals q) ?c1 ?c2 ?c3 (vals_one _) (w.heap.size + 1) w2 (Below.refl _ _) (Nat.le_refl _) ?_
  case c1 => have := HM.out; rw [vals_length]; show _ = min m 32; omega
  case c2 =>
    intro hp
    refine ⟨rfl, ?_⟩
    rcases hbs with ⟨-, h0⟩ | ⟨ad, cap, h, hc⟩
    · subst h0; simp [vals] at hp
    · cases h; exact ⟨ad, rfl, hc⟩
  case c3 => have := HM.out; rw [vals_length, vals_length]; simp; omega
  intro w3 HD3 hb3
  refine hK _ _ ?_
  clear hK K
  have HC := Lib.hid (show w3.heap[w.heap.size + 1]? = some (.cells (vals (sumS s).1).toArray 65) by have h := HD3.out; rw [HQ.out, sum_cells] at h; exact h)
  have HR3 := Lib.hid (show w3.heap[w.heap.size]? = some (.cells (vals (List.replicate 32 0)).toArray 65) from (hb3.block _ (by omega)).trans HR2.out)
  have hA3 := hA2.thenBelow hb3 (by omega)
  have hr3 : RP p g B (sumS s).2 w3 := hr2.on (hb3.mono (by omega))
  have hs3 := hb3.size
  rw [← HL.out] at HC
  clear HD3 HD2 hbs HM HQ
  go_simp
  refine wpAny_done (by kernel_rfl) ?_ _
  go_wp2_with (first | (with_reducible refine wpList_load_row rfl 65 (.tmp 3) rfl (w.heap.size + 1) rfl 65 L (0, 0) _ HC.out Try.underlying65 rfl HSZ.out ?_) | (with_reducible refine wpList_store_row rfl 65 (.tmp 2) (.tmp 9) rfl w3 _ L w.heap.size 65 HR3.out rfl rfl HSZ.out HLZ.out hL1 ?_))
  have hfin : (w3.setRow w.heap.size L).heap[w.heap.size]? = some (.cells L 65) := setRow_heap w3 w.heap.size _ _ _ _ HR3.out
  have hR4 := hr3.on (below_setRow (Below.refl B w3) hB L)
  have hA4 := hA3.thenBelow (below_setRow (Below.refl w.heap.size w3) (Nat.le_refl _) L) (Nat.le_refl _)
  exact bodyPost_ret (v := .agg L) (results_cell_row (P := Try.prog) Try.results28 _ _ w.heap.size 65 L (0, 0) _ rfl hfin Try.underlying65 rfl HSZ.out) rfl ⟨rfl, hR4, hA4⟩
end Go.Proofs.Ytgabpmoibmhigaa.Re
