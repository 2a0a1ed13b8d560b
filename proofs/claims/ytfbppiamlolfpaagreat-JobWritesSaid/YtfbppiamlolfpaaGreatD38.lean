/- Jobs: the document's Encode. -/
import Derived.Test.YtfbppiamlolfpaaGreatD08
import Derived.Test.YtfbppiamlolfpaaGreatD37
import Derived.Test.YtfbppiamlolfpaaGreatD35
namespace Go.Proofs.YtfbppiamlolfpaaGreat.Jd
open Go.RowKit Go.Proofs.YtfbppiamlolfpaaGreat Go.Proofs.YtfbppiamlolfpaaGreat.Rp Go.Proofs.YtfbppiamlolfpaaGreat.Re Go.Proofs.YtfbppiamlolfpaaGreat.Au Go.Proofs.YtfbppiamlolfpaaGreat.Tk
open Go.Proofs.YtfbppiamlolfpaaGreat.Sc (Scn Pla SC SV ScAt Nums Tracks chk rcheck_any nums4 nums5 nums13)
open Go.Proofs.YtfbppiamlolfpaaGreat.Jw
set_option linter.unusedVariables false
set_option linter.unusedSimpArgs false

theorem own_on {w w' : World} {base n : Nat} {v : Value} {xs : List Value} (h : w.ownsRow base 5 1 v n xs) (hb : Below w.heap.size w w') : w'.ownsRow base 5 1 v n xs := by
  refine ⟨h.1, ?_⟩
  have hl := fun q hq => h.lt q hq
  rcases h.2 with hn | ⟨q, cap, cur, rfl, k1, k2, k3⟩
  · exact .inl hn
  · exact .inr ⟨q, cap, cur, rfl, k1, (hb.block q (hl q rfl).2).trans k2, k3⟩

theorem own_mono {w : World} {b1 b2 : Nat} {size n : Nat} {e : TypeId} {v : Value} {xs : List Value} (h : w.ownsRow b1 e size v n xs) (hb : b2 ≤ b1) : w.ownsRow b2 e size v n xs := by
  refine ⟨h.1, ?_⟩
  rcases h.2 with h' | ⟨g, cap, cur, e1, e2, e3⟩
  · exact .inl h'
  · exact .inr ⟨g, cap, cur, e1, by omega, e3⟩

theorem own_lit {w : World} {b base : Nat} (p : List UInt8) (hb : w.heap[b]? = some (.cells (vals p).toArray 5 (0, 0))) (hB : base ≤ b) (hp : p.length ≤ 1000) : w.ownsRow base 5 1 (.slice (some ⟨b, 0, none⟩) p.length p.length) p.length (vals p) := by
  refine ⟨by simp [vals], .inr ⟨b, p.length, (vals p).toArray, rfl, hB, hb, Nat.le_refl _, by unfold maxLen; omega, by simp [vals], by rw [Nat.mul_one]; exact List.take_of_length_le (by simp [vals])⟩⟩

theorem lit_cells (p : List UInt8) (w : World) (T : TypeId) : ∀ j u, (vals p)[j]? = some u → (w.alloc (.cells (vals p).toArray T)).cell? ((⟨w.heap.size, 0, none⟩ : Addr).add j) = some u := by
  intro j u hu
  have hj : (⟨w.heap.size, 0, none⟩ : Addr).add j = ⟨w.heap.size, j, none⟩ := by unfold Addr.add; split <;> simp_all
  rw [hj, cell_of_row _ _ j _ _ _ (heap_alloc_last w _)]
  simpa using hu

theorem cnt_is (n : Nat) (x : UInt8) (h : x = byteAt (u64 (n : Int)) 0) : (n : Int) % 256 = (x.toNat : Int) := by
  rw [h, byteAt_toNat]
  have := u64_cast (n : Int)
  simp only [Nat.pow_zero, Nat.div_one]
  omega

theorem one_is (z : Int) (x : UInt8) (h : x = byteAt (u64 z) 0) : z % 256 = (x.toNat : Int) := by
  rw [h, byteAt_toNat]
  have := u64_cast z
  simp only [Nat.pow_zero, Nat.div_one]
  omega

/-- tracks that stay in all later worlds -/
def TrkB (w : World) (ta : Option Addr) (nt : Nat) (way : Nat → Int) (kn : Nat → Nat) (K : Nat → Nat → Int) : Prop :=
  nt = 0 ∨ ∃ b off, ta = some ⟨b, off, none⟩ ∧ ∀ i, i < nt → ∃ ka kc, ∀ W, Below w.heap.size w W → W.cell? ⟨b, off + i * 2, none⟩ = some (.int .i64 (way i)) ∧ W.cell? ⟨b, off + i * 2 + 1, none⟩ = some (.slice ka (kn i) kc) ∧ KeysAt W ka (kn i) (K i)

theorem TrkB.at {w : World} {ta : Option Addr} {nt i : Nat} {way : Nat → Int} {kn : Nat → Nat} {K : Nat → Nat → Int} (h : TrkB w ta nt way kn K) (hi : i < nt) : ∃ b off ka kc, ta = some ⟨b, off, none⟩ ∧ ∀ W, Below w.heap.size w W → W.cell? ⟨b, off + i * 2, none⟩ = some (.int .i64 (way i)) ∧ W.cell? ⟨b, off + i * 2 + 1, none⟩ = some (.slice ka (kn i) kc) ∧ KeysAt W ka (kn i) (K i) := by
  rcases h with h | ⟨b, off, e, h⟩
  · omega
  · obtain ⟨ka, kc, h⟩ := h i hi
    exact ⟨b, off, ka, kc, e, h⟩

theorem trkB {w : World} {ta : Option Addr} {nt : Nat} {way : Nat → Int} {kn : Nat → Nat} {K : Nat → Nat → Int} (h : Tracks w ta nt way kn K) : TrkB w ta nt way kn K := by
  rcases h.2 with h | ⟨b, off, e, hlt, h⟩
  · exact .inl h
  · refine .inr ⟨b, off, e, fun i hi => ?_⟩
    obtain ⟨ka, kc, q1, q2, q3⟩ := h i hi
    exact ⟨ka, kc, fun W hW => ⟨(hW.cell (p := ⟨b, off + i * 2, none⟩) hlt).trans q1, (hW.cell (p := ⟨b, off + (i * 2 + 1), none⟩) hlt).trans q2, q3.on hW⟩⟩

theorem nums_cons (k : Nat) (z : Int) (r : List Int) : numsOf k (z :: r) = bytesOf (u64 z) k ++ numsOf k r := by simp [numsOf]

theorem mgL4 : mgL 4 = [90, 79, 69, 49] := by decide

theorem nums1 (z : Int) (r : List Int) : numsOf 1 (z :: r) = byteAt (u64 z) 0 :: numsOf 1 r := by simp [numsOf, bytesOf]

set_option maxHeartbeats 16000000 in
set_option maxRecDepth 100000 in
theorem dmade (a1 a2 a3 a4 a5 a6 : Int) (sd : Nat) (r1 r2 r3 e1 e2 e3 : Int) (np nt nj ns : Nat) (P : Nat → Int) (way : Nat → Int) (kn : Nat → Nat) (K : Nat → Nat → Int) (J S : Nat → Int) (pa ta ja sa : Option Addr) (pc tc jc sc : Nat) (c2 : Int) (w : World) (C : ∀ W, Below w.heap.size w W → Calls Tryz.prog 22 #[.agg #[.int .i64 a1, .int .i64 a2, .int .i64 a3, .int .i64 a4, .int .i64 a5, .int .i64 a6, .int .u64 (sd : Int), .int .i64 r1, .int .i64 r2, .int .i64 r3, .int .i64 e1, .int .i64 e2, .int .i64 e3, .slice pa np pc, .slice ta nt tc, .slice ja nj jc, .slice sa ns sc]] W fun e' w' => e' = .returned (.tuple #[.int .i64 0, .int .i64 c2]) ∧ Below W.heap.size W w') (hsd : sd < 18446744073709551616) (hnp : np ≤ 200) (hnt : nt ≤ 200) (hnj : nj ≤ 200) (hns : ns ≤ 200) (hkn : ∀ i, i < nt → kn i ≤ 200) (hP : ∀ W, Below w.heap.size w W → Nums 5 W pa np P) (hT : TrkB w ta nt way kn K) (hJ : ∀ W, Below w.heap.size w W → Nums 4 W ja nj J) (hX : ∀ W, Below w.heap.size w W → Nums 13 W sa ns S) : Calls Tryz.prog 10 #[.agg #[.int .i64 a1, .int .i64 a2, .int .i64 a3, .int .i64 a4, .int .i64 a5, .int .i64 a6, .int .u64 (sd : Int), .int .i64 r1, .int .i64 r2, .int .i64 r3, .int .i64 e1, .int .i64 e2, .int .i64 e3, .slice pa np pc, .slice ta nt tc, .slice ja nj jc, .slice sa ns sc]] w fun e' w' => (∃ b n c, e' = .returned (.tuple #[.slice b n c, .int .i64 0]) ∧ w'.ownsRow w.heap.size 5 1 (.slice b n c) (sceneB a1 a2 a3 a4 a5 a6 sd r1 r2 r3 e1 e2 e3 np nt nj ns P way kn K J S).length (vals (sceneB a1 a2 a3 a4 a5 a6 sd r1 r2 r3 e1 e2 e3 np nt nj ns P way kn K J S))) ∧ Below w.heap.size w w' := by
  have HC := Lib.hid C
  have HSD := Lib.hid hsd
  have HKN := Lib.hid hkn
  have HPP := Lib.hid hP
  have HTT := Lib.hid hT
  have HJJ := Lib.hid hJ
  have HXX := Lib.hid hX
  clear C hsd hkn hP hT hJ hX
  go_enter Tryz.func10, Tryz.ntmps10
  go_upto_region 1 with fail
  have hR := Au.rows1 w (.cells #[.int .i64 a1, .int .i64 a2, .int .i64 a3, .int .i64 a4, .int .i64 a5, .int .i64 a6, .int .u64 (sd : Int), .int .i64 r1, .int .i64 r2, .int .i64 r3, .int .i64 e1, .int .i64 e2, .int .i64 e3, .slice pa np pc, .slice ta nt tc, .slice ja nj jc, .slice sa ns sc] 32)
  have HUx := Ve.below_n1 w (.cells #[.int .i64 a1, .int .i64 a2, .int .i64 a3, .int .i64 a4, .int .i64 a5, .int .i64 a6, .int .u64 (sd : Int), .int .i64 r1, .int .i64 r2, .int .i64 r3, .int .i64 e1, .int .i64 e2, .int .i64 e3, .slice pa np pc, .slice ta nt tc, .slice ja nj jc, .slice sa ns sc] 32)
  obtain ⟨y0, hy0⟩ : ∃ y0, w.alloc (.cells #[.int .i64 a1, .int .i64 a2, .int .i64 a3, .int .i64 a4, .int .i64 a5, .int .i64 a6, .int .u64 (sd : Int), .int .i64 r1, .int .i64 r2, .int .i64 r3, .int .i64 e1, .int .i64 e2, .int .i64 e3, .slice pa np pc, .slice ta nt tc, .slice ja nj jc, .slice sa ns sc] 32) = y0 := ⟨_, rfl⟩
  rw [hy0] at hR HUx ⊢
  clear hy0
  have HU0 := Lib.hid HUx
  clear HUx
  have hr0_0 := hR
  clear hR
  have hl0_0 := lt_heap hr0_0
  obtain ⟨b0, hb0⟩ : ∃ b0, b0 = y0.heap.size := ⟨_, rfl⟩
  have hbw : w.heap.size < b0 := by omega
  have hbz : b0 ≤ y0.heap.size := by omega
  clear hb0
  have HWL0 := Lib.hid hr0_0
  have HWZ0 := Lib.hid (show (Tryz.prog.info? 32).map (·.size) = some (#[.int .i64 a1, .int .i64 a2, .int .i64 a3, .int .i64 a4, .int .i64 a5, .int .i64 a6, .int .u64 (sd : Int), .int .i64 r1, .int .i64 r2, .int .i64 r3, .int .i64 e1, .int .i64 e2, .int .i64 e3, .slice pa np pc, .slice ta nt tc, .slice ja nj jc, .slice sa ns sc] : Array Value).size by kernel_rfl)
  go_wp2_with (first | (with_reducible refine wpList_load_row rfl 32 (.tmp 1) rfl (w.heap.size) rfl 32 #[.int .i64 a1, .int .i64 a2, .int .i64 a3, .int .i64 a4, .int .i64 a5, .int .i64 a6, .int .u64 (sd : Int), .int .i64 r1, .int .i64 r2, .int .i64 r3, .int .i64 e1, .int .i64 e2, .int .i64 e3, .slice pa np pc, .slice ta nt tc, .slice ja nj jc, .slice sa ns sc] (0, 0) _ HWL0.out Tryz.underlying32 rfl HWZ0.out ?_))
  clear HWL0 HWZ0
  refine (HC.out _ HU0.out).mono ?_
  rintro e y1 ⟨rfl, hb1⟩
  have hzs1 := (hb1).size
  have hr1_0 := (hb1.block _ (lt_heap hr0_0)).trans hr0_0
  have HU1 := Lib.hid (HU0.out.trans (hb1.mono HU0.out.size))
  clear hr0_0 HU0
  have hzc := hb1.size
  have c0_0 := cell_of_row _ _ 0 _ _ _ hr1_0
  have c0_1 := cell_of_row _ _ 1 _ _ _ hr1_0
  have c0_2 := cell_of_row _ _ 2 _ _ _ hr1_0
  have c0_3 := cell_of_row _ _ 3 _ _ _ hr1_0
  have c0_4 := cell_of_row _ _ 4 _ _ _ hr1_0
  have c0_5 := cell_of_row _ _ 5 _ _ _ hr1_0
  have c0_6 := cell_of_row _ _ 6 _ _ _ hr1_0
  have c0_7 := cell_of_row _ _ 7 _ _ _ hr1_0
  have c0_8 := cell_of_row _ _ 8 _ _ _ hr1_0
  have c0_9 := cell_of_row _ _ 9 _ _ _ hr1_0
  have c0_10 := cell_of_row _ _ 10 _ _ _ hr1_0
  have c0_11 := cell_of_row _ _ 11 _ _ _ hr1_0
  have c0_12 := cell_of_row _ _ 12 _ _ _ hr1_0
  have c0_13 := cell_of_row _ _ 13 _ _ _ hr1_0
  have c0_14 := cell_of_row _ _ 14 _ _ _ hr1_0
  have c0_15 := cell_of_row _ _ 15 _ _ _ hr1_0
  have c0_16 := cell_of_row _ _ 16 _ _ _ hr1_0
  simp at c0_0 c0_1 c0_2 c0_3 c0_4 c0_5 c0_6 c0_7 c0_8 c0_9 c0_10 c0_11 c0_12 c0_13 c0_14 c0_15 c0_16
  go_upto_region 5 with fail
  clear c0_0 c0_1 c0_2 c0_3 c0_4 c0_5 c0_6 c0_7 c0_8 c0_9 c0_10 c0_11 c0_12 c0_13 c0_14 c0_15 c0_16
  have hb2 := Ve.below_n1 y1 (.cells #[.int .i64 a1, .int .i64 a2, .int .i64 a3, .int .i64 a4, .int .i64 a5, .int .i64 a6, .int .u64 (sd : Int), .int .i64 r1, .int .i64 r2, .int .i64 r3] 26)
  have hN := heap_alloc_last y1 (.cells #[.int .i64 a1, .int .i64 a2, .int .i64 a3, .int .i64 a4, .int .i64 a5, .int .i64 a6, .int .u64 (sd : Int), .int .i64 r1, .int .i64 r2, .int .i64 r3] 26)
  obtain ⟨y2, hy2⟩ : ∃ y, y1.alloc (.cells #[.int .i64 a1, .int .i64 a2, .int .i64 a3, .int .i64 a4, .int .i64 a5, .int .i64 a6, .int .u64 (sd : Int), .int .i64 r1, .int .i64 r2, .int .i64 r3] 26) = y := ⟨_, rfl⟩
  have hs2 : y2.heap.size = y1.heap.size + 1 := by rw [← hy2]; simp
  rw [hy2] at hb2 hN ⊢
  clear hy2
  have hl2_0 := lt_heap hr1_0
  have hzs2 := (hb2).size
  have hr2_0 := (hb2.block _ (lt_heap hr1_0)).trans hr1_0
  have HU2 := Lib.hid (HU1.out.trans (hb2.mono HU1.out.size))
  clear hr1_0 HU1
  have hr2_1 := hN
  clear hN
  replace hs2 : y1.heap.size < y2.heap.size := by omega
  go_upto_region 6 with fail
  have hb3 := Ve.below_n1 y2 (.cells #[.int .u8 90, .int .u8 79, .int .u8 69, .int .u8 49] 5)
  have hN := heap_alloc_last y2 (.cells #[.int .u8 90, .int .u8 79, .int .u8 69, .int .u8 49] 5)
  obtain ⟨y3, hy3⟩ : ∃ y, y2.alloc (.cells #[.int .u8 90, .int .u8 79, .int .u8 69, .int .u8 49] 5) = y := ⟨_, rfl⟩
  have hs3 : y3.heap.size = y2.heap.size + 1 := by rw [← hy3]; simp
  rw [hy3] at hb3 hN ⊢
  clear hy3
  have hl3_0 := lt_heap hr2_0
  have hl3_1 := lt_heap hr2_1
  have hzs3 := (hb3).size
  have hr3_0 := (hb3.block _ (lt_heap hr2_0)).trans hr2_0
  have hr3_1 := (hb3.block _ (lt_heap hr2_1)).trans hr2_1
  have HU3 := Lib.hid (HU2.out.trans (hb3.mono HU2.out.size))
  clear hr2_0 hr2_1 HU2
  have hr3_2 := hN
  clear hN
  replace hs3 : y2.heap.size < y3.heap.size := by omega
  have HO3 := Lib.hid (show y3.ownsRow b0 5 1 (.slice (some ⟨y2.heap.size, 0, none⟩) 4 4) ([90, 79, 69, 49]).length (vals ([90, 79, 69, 49])) from own_lit [90, 79, 69, 49] hr3_2 (by omega) (by simp))
  obtain ⟨n0, hn0⟩ : ∃ n : Nat, n = u64 (a1) := ⟨_, rfl⟩
  have wn0 : IntKind.u64.wrap (a1) = (n0 : Int) := by rw [hn0, u64_wrap]
  have ln0 : n0 < 18446744073709551616 := by rw [hn0]; exact u64_lt _
  have Nn0 := Lib.hid hn0
  clear hn0
  obtain ⟨n1, hn1⟩ : ∃ n : Nat, n = u64 (a2) := ⟨_, rfl⟩
  have wn1 : IntKind.u64.wrap (a2) = (n1 : Int) := by rw [hn1, u64_wrap]
  have ln1 : n1 < 18446744073709551616 := by rw [hn1]; exact u64_lt _
  have Nn1 := Lib.hid hn1
  clear hn1
  obtain ⟨n2, hn2⟩ : ∃ n : Nat, n = u64 (a3) := ⟨_, rfl⟩
  have wn2 : IntKind.u64.wrap (a3) = (n2 : Int) := by rw [hn2, u64_wrap]
  have ln2 : n2 < 18446744073709551616 := by rw [hn2]; exact u64_lt _
  have Nn2 := Lib.hid hn2
  clear hn2
  obtain ⟨n3, hn3⟩ : ∃ n : Nat, n = u64 (a4) := ⟨_, rfl⟩
  have wn3 : IntKind.u64.wrap (a4) = (n3 : Int) := by rw [hn3, u64_wrap]
  have ln3 : n3 < 18446744073709551616 := by rw [hn3]; exact u64_lt _
  have Nn3 := Lib.hid hn3
  clear hn3
  obtain ⟨n4, hn4⟩ : ∃ n : Nat, n = u64 (a5) := ⟨_, rfl⟩
  have wn4 : IntKind.u64.wrap (a5) = (n4 : Int) := by rw [hn4, u64_wrap]
  have ln4 : n4 < 18446744073709551616 := by rw [hn4]; exact u64_lt _
  have Nn4 := Lib.hid hn4
  clear hn4
  go_upto_region 6 with fail
  refine wp_region_held_drew (S := fun y => y.heap[y1.heap.size]? = some (.cells #[.int .i64 a1, .int .i64 a2, .int .i64 a3, .int .i64 a4, .int .i64 a5, .int .i64 a6, .int .u64 (sd : Int), .int .i64 r1, .int .i64 r2, .int .i64 r3] 26 (0, 0))) (by as_aux_lemma => kernel_rfl) (hr3_1) (fun hS0 => ?_)
  obtain ⟨y4, hy4⟩ : ∃ y, y3.drew = y := ⟨_, rfl⟩
  have HU4 := Lib.hid (show Below w.heap.size w y4 by rw [← hy4]; exact HU3.out.drew)
  have hr4_0 : y4.heap[w.heap.size]? = some (.cells #[.int .i64 a1, .int .i64 a2, .int .i64 a3, .int .i64 a4, .int .i64 a5, .int .i64 a6, .int .u64 (sd : Int), .int .i64 r1, .int .i64 r2, .int .i64 r3, .int .i64 e1, .int .i64 e2, .int .i64 e3, .slice pa np pc, .slice ta nt tc, .slice ja nj jc, .slice sa ns sc] 32 (0, 0)) := by rw [← hy4]; exact hr3_0
  have hr4_1 : y4.heap[y1.heap.size]? = some (.cells #[.int .i64 a1, .int .i64 a2, .int .i64 a3, .int .i64 a4, .int .i64 a5, .int .i64 a6, .int .u64 (sd : Int), .int .i64 r1, .int .i64 r2, .int .i64 r3] 26 (0, 0)) := by rw [← hy4]; exact hr3_1
  have hzd4 : y3.heap.size ≤ y4.heap.size := by rw [← hy4]; exact (Below.refl y3.heap.size y3).drew.size
  have HO4 := Lib.hid (own_on (w' := y4) HO3.out (by rw [← hy4]; exact (Below.refl _ _).drew))
  rw [hy4] at hS0 ⊢
  clear hy4
  refine wpAnyH_take (i := 0) (v := ?_) rfl (by as_aux_lemma => kernel_rfl) (by as_aux_lemma => kernel_rfl) (by as_aux_lemma => kernel_rfl) (fun _ _ _ h => h) (Or.inl ⟨(by as_aux_lemma => kernel_rfl), by (intro wz hSz; go_simp; try with_reducible rfl)⟩) hS0 ?_
  go_simp
  refine wpAnyH_take (i := 1) (v := ?_) rfl (by as_aux_lemma => kernel_rfl) (by as_aux_lemma => kernel_rfl) (by as_aux_lemma => kernel_rfl) (fun _ _ _ h => h) (Or.inl ⟨(by as_aux_lemma => kernel_rfl), by (intro wz hSz; go_simp; try with_reducible rfl)⟩) hS0 ?_
  go_simp
  refine wpAnyH_take (i := 2) (v := ?_) rfl (by as_aux_lemma => kernel_rfl) (by as_aux_lemma => kernel_rfl) (by as_aux_lemma => kernel_rfl) (fun _ _ _ h => h) (Or.inl ⟨(by as_aux_lemma => kernel_rfl), by (intro wz hSz; have c1_0 := cell_of_row _ _ 0 _ _ _ hSz; have c1_1 := cell_of_row _ _ 1 _ _ _ hSz; have c1_2 := cell_of_row _ _ 2 _ _ _ hSz; have c1_3 := cell_of_row _ _ 3 _ _ _ hSz; have c1_4 := cell_of_row _ _ 4 _ _ _ hSz; simp at c1_0 c1_1 c1_2 c1_3 c1_4; go_simp; try with_reducible rfl)⟩) hS0 ?_
  go_simp
  refine wpAnyH_take (i := 3) (v := ?_) rfl (by as_aux_lemma => kernel_rfl) (by as_aux_lemma => kernel_rfl) (by as_aux_lemma => kernel_rfl) (fun _ _ _ h => h) (Or.inl ⟨(by as_aux_lemma => kernel_rfl), by (intro wz hSz; go_simp; try with_reducible rfl)⟩) hS0 ?_
  go_simp
  refine wpAnyH_take (i := 5) (v := ?_) rfl (by as_aux_lemma => kernel_rfl) (by as_aux_lemma => kernel_rfl) (by as_aux_lemma => kernel_rfl) (fun _ _ _ h => h) (Or.inl ⟨(by as_aux_lemma => kernel_rfl), by (intro wz hSz; go_simp; try with_reducible rfl)⟩) hS0 ?_
  go_simp
  refine wpAnyH_take (i := 6) (v := ?_) rfl (by as_aux_lemma => kernel_rfl) (by as_aux_lemma => kernel_rfl) (by as_aux_lemma => kernel_rfl) (fun _ _ _ h => h) (Or.inl ⟨(by as_aux_lemma => kernel_rfl), by (intro wz hSz; have c1_0 := cell_of_row _ _ 0 _ _ _ hSz; have c1_1 := cell_of_row _ _ 1 _ _ _ hSz; have c1_2 := cell_of_row _ _ 2 _ _ _ hSz; have c1_3 := cell_of_row _ _ 3 _ _ _ hSz; have c1_4 := cell_of_row _ _ 4 _ _ _ hSz; simp at c1_0 c1_1 c1_2 c1_3 c1_4; go_simp; try with_reducible rfl)⟩) hS0 ?_
  go_simp
  refine wpAnyH_take (i := 7) (v := ?_) rfl (by as_aux_lemma => kernel_rfl) (by as_aux_lemma => kernel_rfl) (by as_aux_lemma => kernel_rfl) (fun _ _ _ h => h) (Or.inl ⟨(by as_aux_lemma => kernel_rfl), by (intro wz hSz; go_simp; try with_reducible rfl)⟩) hS0 ?_
  go_simp
  refine wpAnyH_take (i := 9) (v := ?_) rfl (by as_aux_lemma => kernel_rfl) (by as_aux_lemma => kernel_rfl) (by as_aux_lemma => kernel_rfl) (fun _ _ _ h => h) (Or.inl ⟨(by as_aux_lemma => kernel_rfl), by (intro wz hSz; go_simp; try with_reducible rfl)⟩) hS0 ?_
  go_simp
  refine wpAnyH_take (i := 10) (v := ?_) rfl (by as_aux_lemma => kernel_rfl) (by as_aux_lemma => kernel_rfl) (by as_aux_lemma => kernel_rfl) (fun _ _ _ h => h) (Or.inl ⟨(by as_aux_lemma => kernel_rfl), by (intro wz hSz; have c1_0 := cell_of_row _ _ 0 _ _ _ hSz; have c1_1 := cell_of_row _ _ 1 _ _ _ hSz; have c1_2 := cell_of_row _ _ 2 _ _ _ hSz; have c1_3 := cell_of_row _ _ 3 _ _ _ hSz; have c1_4 := cell_of_row _ _ 4 _ _ _ hSz; simp at c1_0 c1_1 c1_2 c1_3 c1_4; go_simp; try with_reducible rfl)⟩) hS0 ?_
  go_simp
  refine wpAnyH_take (i := 11) (v := ?_) rfl (by as_aux_lemma => kernel_rfl) (by as_aux_lemma => kernel_rfl) (by as_aux_lemma => kernel_rfl) (fun _ _ _ h => h) (Or.inl ⟨(by as_aux_lemma => kernel_rfl), by (intro wz hSz; go_simp; try with_reducible rfl)⟩) hS0 ?_
  go_simp
  refine wpAnyH_take (i := 13) (v := ?_) rfl (by as_aux_lemma => kernel_rfl) (by as_aux_lemma => kernel_rfl) (by as_aux_lemma => kernel_rfl) (fun _ _ _ h => h) (Or.inl ⟨(by as_aux_lemma => kernel_rfl), by (intro wz hSz; go_simp; try with_reducible rfl)⟩) hS0 ?_
  go_simp
  refine wpAnyH_take (i := 14) (v := ?_) rfl (by as_aux_lemma => kernel_rfl) (by as_aux_lemma => kernel_rfl) (by as_aux_lemma => kernel_rfl) (fun _ _ _ h => h) (Or.inl ⟨(by as_aux_lemma => kernel_rfl), by (intro wz hSz; have c1_0 := cell_of_row _ _ 0 _ _ _ hSz; have c1_1 := cell_of_row _ _ 1 _ _ _ hSz; have c1_2 := cell_of_row _ _ 2 _ _ _ hSz; have c1_3 := cell_of_row _ _ 3 _ _ _ hSz; have c1_4 := cell_of_row _ _ 4 _ _ _ hSz; simp at c1_0 c1_1 c1_2 c1_3 c1_4; go_simp; try with_reducible rfl)⟩) hS0 ?_
  go_simp
  refine wpAnyH_take (i := 15) (v := ?_) rfl (by as_aux_lemma => kernel_rfl) (by as_aux_lemma => kernel_rfl) (by as_aux_lemma => kernel_rfl) (fun _ _ _ h => h) (Or.inl ⟨(by as_aux_lemma => kernel_rfl), by (intro wz hSz; go_simp; try with_reducible rfl)⟩) hS0 ?_
  go_simp
  refine wpAnyH_take (i := 17) (v := ?_) rfl (by as_aux_lemma => kernel_rfl) (by as_aux_lemma => kernel_rfl) (by as_aux_lemma => kernel_rfl) (fun _ _ _ h => h) (Or.inl ⟨(by as_aux_lemma => kernel_rfl), by (intro wz hSz; go_simp; try with_reducible rfl)⟩) hS0 ?_
  go_simp
  refine wpAnyH_take (i := 18) (v := ?_) rfl (by as_aux_lemma => kernel_rfl) (by as_aux_lemma => kernel_rfl) (by as_aux_lemma => kernel_rfl) (fun _ _ _ h => h) (Or.inl ⟨(by as_aux_lemma => kernel_rfl), by (intro wz hSz; have c1_0 := cell_of_row _ _ 0 _ _ _ hSz; have c1_1 := cell_of_row _ _ 1 _ _ _ hSz; have c1_2 := cell_of_row _ _ 2 _ _ _ hSz; have c1_3 := cell_of_row _ _ 3 _ _ _ hSz; have c1_4 := cell_of_row _ _ 4 _ _ _ hSz; simp at c1_0 c1_1 c1_2 c1_3 c1_4; go_simp; try with_reducible rfl)⟩) hS0 ?_
  go_simp
  refine wpAnyH_take (i := 19) (v := ?_) rfl (by as_aux_lemma => kernel_rfl) (by as_aux_lemma => kernel_rfl) (by as_aux_lemma => kernel_rfl) (fun _ _ _ h => h) (Or.inl ⟨(by as_aux_lemma => kernel_rfl), by (intro wz hSz; go_simp; try with_reducible rfl)⟩) hS0 ?_
  go_simp
  refine wpAnyH_ready (rs := [4]) (by as_aux_lemma => kernel_rfl) (by simp) ?_
  refine AllReadyH.cons rfl (fun K hK => ?_) AllReadyH.nil
  go_simp
  go_wp2_with (go_at_call 23; refine (num_any ([90, 79, 69, 49]) n0 2 ln0 (by omega) _ _ (Re.own_bs HO4.out) (by first | omega | (simp only [List.length_append, numsOf_length, bytesOf_length, keysOf_length, List.length_cons, List.length_nil]; omega))).mono ?_; rintro e y5 ⟨⟨v5, rfl, ho⟩, hb5⟩; have HO5 := Lib.hid (show y5.ownsRow b0 5 1 v5 ([90, 79, 69, 49] ++ bytesOf (u64 (a1)) 2).length (vals ([90, 79, 69, 49] ++ bytesOf (u64 (a1)) 2)) from by rw [← Nn0.out]; exact own_mono ho (by omega)); clear ho; have hzs5 := hb5.size)
  have hr5_0 := (hb5.block _ (lt_heap hr4_0)).trans hr4_0
  have hr5_1 := (hb5.block _ (lt_heap hr4_1)).trans hr4_1
  have HU5 := Lib.hid (HU4.out.trans (hb5.mono HU4.out.size))
  refine hK.out _ _ ((hb5.block _ (lt_heap hS0)).trans hS0) (fun hS5c => ?_)
  clear hK K
  refine wpAnyH_ready (rs := [8]) (by as_aux_lemma => kernel_rfl) (by simp) ?_
  refine AllReadyH.cons rfl (fun K hK => ?_) AllReadyH.nil
  go_simp
  go_wp2_with (go_at_call 23; refine (num_any ([90, 79, 69, 49] ++ bytesOf (u64 (a1)) 2) n1 2 ln1 (by omega) _ _ (Re.own_bs HO5.out) (by first | omega | (simp only [List.length_append, numsOf_length, bytesOf_length, keysOf_length, List.length_cons, List.length_nil]; omega))).mono ?_; rintro e y6 ⟨⟨v6, rfl, ho⟩, hb6⟩; have HO6 := Lib.hid (show y6.ownsRow b0 5 1 v6 ([90, 79, 69, 49] ++ bytesOf (u64 (a1)) 2 ++ bytesOf (u64 (a2)) 2).length (vals ([90, 79, 69, 49] ++ bytesOf (u64 (a1)) 2 ++ bytesOf (u64 (a2)) 2)) from by rw [← Nn1.out]; exact own_mono ho (by omega)); clear ho; have hzs6 := hb6.size)
  have hr6_0 := (hb6.block _ (lt_heap hr5_0)).trans hr5_0
  have hr6_1 := (hb6.block _ (lt_heap hr5_1)).trans hr5_1
  have HU6 := Lib.hid (HU5.out.trans (hb6.mono HU5.out.size))
  refine hK.out _ _ ((hb6.block _ (lt_heap hS5c)).trans hS5c) (fun hS6c => ?_)
  clear hK K
  refine wpAnyH_ready (rs := [12]) (by as_aux_lemma => kernel_rfl) (by simp) ?_
  refine AllReadyH.cons rfl (fun K hK => ?_) AllReadyH.nil
  go_simp
  go_wp2_with (go_at_call 23; refine (num_any ([90, 79, 69, 49] ++ bytesOf (u64 (a1)) 2 ++ bytesOf (u64 (a2)) 2) n2 2 ln2 (by omega) _ _ (Re.own_bs HO6.out) (by first | omega | (simp only [List.length_append, numsOf_length, bytesOf_length, keysOf_length, List.length_cons, List.length_nil]; omega))).mono ?_; rintro e y7 ⟨⟨v7, rfl, ho⟩, hb7⟩; have HO7 := Lib.hid (show y7.ownsRow b0 5 1 v7 ([90, 79, 69, 49] ++ bytesOf (u64 (a1)) 2 ++ bytesOf (u64 (a2)) 2 ++ bytesOf (u64 (a3)) 2).length (vals ([90, 79, 69, 49] ++ bytesOf (u64 (a1)) 2 ++ bytesOf (u64 (a2)) 2 ++ bytesOf (u64 (a3)) 2)) from by rw [← Nn2.out]; exact own_mono ho (by omega)); clear ho; have hzs7 := hb7.size)
  have hr7_0 := (hb7.block _ (lt_heap hr6_0)).trans hr6_0
  have hr7_1 := (hb7.block _ (lt_heap hr6_1)).trans hr6_1
  have HU7 := Lib.hid (HU6.out.trans (hb7.mono HU6.out.size))
  refine hK.out _ _ ((hb7.block _ (lt_heap hS6c)).trans hS6c) (fun hS7c => ?_)
  clear hK K
  refine wpAnyH_ready (rs := [16]) (by as_aux_lemma => kernel_rfl) (by simp) ?_
  refine AllReadyH.cons rfl (fun K hK => ?_) AllReadyH.nil
  go_simp
  go_wp2_with (go_at_call 23; refine (num_any ([90, 79, 69, 49] ++ bytesOf (u64 (a1)) 2 ++ bytesOf (u64 (a2)) 2 ++ bytesOf (u64 (a3)) 2) n3 2 ln3 (by omega) _ _ (Re.own_bs HO7.out) (by first | omega | (simp only [List.length_append, numsOf_length, bytesOf_length, keysOf_length, List.length_cons, List.length_nil]; omega))).mono ?_; rintro e y8 ⟨⟨v8, rfl, ho⟩, hb8⟩; have HO8 := Lib.hid (show y8.ownsRow b0 5 1 v8 ([90, 79, 69, 49] ++ bytesOf (u64 (a1)) 2 ++ bytesOf (u64 (a2)) 2 ++ bytesOf (u64 (a3)) 2 ++ bytesOf (u64 (a4)) 2).length (vals ([90, 79, 69, 49] ++ bytesOf (u64 (a1)) 2 ++ bytesOf (u64 (a2)) 2 ++ bytesOf (u64 (a3)) 2 ++ bytesOf (u64 (a4)) 2)) from by rw [← Nn3.out]; exact own_mono ho (by omega)); clear ho; have hzs8 := hb8.size)
  have hr8_0 := (hb8.block _ (lt_heap hr7_0)).trans hr7_0
  have hr8_1 := (hb8.block _ (lt_heap hr7_1)).trans hr7_1
  have HU8 := Lib.hid (HU7.out.trans (hb8.mono HU7.out.size))
  refine hK.out _ _ ((hb8.block _ (lt_heap hS7c)).trans hS7c) (fun hS8c => ?_)
  clear hK K
  refine wpAnyH_ready (rs := [20]) (by as_aux_lemma => kernel_rfl) (by simp) ?_
  refine AllReadyH.cons rfl (fun K hK => ?_) AllReadyH.nil
  go_simp
  go_wp2_with (go_at_call 23; refine (num_any ([90, 79, 69, 49] ++ bytesOf (u64 (a1)) 2 ++ bytesOf (u64 (a2)) 2 ++ bytesOf (u64 (a3)) 2 ++ bytesOf (u64 (a4)) 2) n4 2 ln4 (by omega) _ _ (Re.own_bs HO8.out) (by first | omega | (simp only [List.length_append, numsOf_length, bytesOf_length, keysOf_length, List.length_cons, List.length_nil]; omega))).mono ?_; rintro e y9 ⟨⟨v9, rfl, ho⟩, hb9⟩; have HO9 := Lib.hid (show y9.ownsRow b0 5 1 v9 ([90, 79, 69, 49] ++ bytesOf (u64 (a1)) 2 ++ bytesOf (u64 (a2)) 2 ++ bytesOf (u64 (a3)) 2 ++ bytesOf (u64 (a4)) 2 ++ bytesOf (u64 (a5)) 2).length (vals ([90, 79, 69, 49] ++ bytesOf (u64 (a1)) 2 ++ bytesOf (u64 (a2)) 2 ++ bytesOf (u64 (a3)) 2 ++ bytesOf (u64 (a4)) 2 ++ bytesOf (u64 (a5)) 2)) from by rw [← Nn4.out]; exact own_mono ho (by omega)); clear ho; have hzs9 := hb9.size)
  have hr9_0 := (hb9.block _ (lt_heap hr8_0)).trans hr8_0
  have hr9_1 := (hb9.block _ (lt_heap hr8_1)).trans hr8_1
  have HU9 := Lib.hid (HU8.out.trans (hb9.mono HU8.out.size))
  refine hK.out _ _ ((hb9.block _ (lt_heap hS8c)).trans hS8c) (fun hS9c => ?_)
  clear hK K
  refine wpAnyH_take (i := 21) (v := ?_) rfl (by as_aux_lemma => kernel_rfl) (by as_aux_lemma => kernel_rfl) (by as_aux_lemma => kernel_rfl) (fun _ _ _ h => h) (Or.inl ⟨(by as_aux_lemma => kernel_rfl), by (intro wz hSz; go_simp; try with_reducible rfl)⟩) hS9c ?_
  go_simp
  refine wpAnyH_done (by as_aux_lemma => kernel_rfl) ?_ _
  clear wn0 ln0 Nn0 wn1 ln1 Nn1 wn2 ln2 Nn2 wn3 ln3 Nn3 wn4 ln4 Nn4
  obtain ⟨n0, hn0⟩ : ∃ n : Nat, n = u64 (a6) := ⟨_, rfl⟩
  have wn0 : IntKind.u64.wrap (a6) = (n0 : Int) := by rw [hn0, u64_wrap]
  have ln0 : n0 < 18446744073709551616 := by rw [hn0]; exact u64_lt _
  have Nn0 := Lib.hid hn0
  clear hn0
  go_upto_region 7 with fail
  refine wp_region_held_drew (S := fun y => y.heap[y1.heap.size]? = some (.cells #[.int .i64 a1, .int .i64 a2, .int .i64 a3, .int .i64 a4, .int .i64 a5, .int .i64 a6, .int .u64 (sd : Int), .int .i64 r1, .int .i64 r2, .int .i64 r3] 26 (0, 0))) (by as_aux_lemma => kernel_rfl) (hr9_1) (fun hS0 => ?_)
  obtain ⟨y10, hy10⟩ : ∃ y, y9.drew = y := ⟨_, rfl⟩
  have HU10 := Lib.hid (show Below w.heap.size w y10 by rw [← hy10]; exact HU9.out.drew)
  have hr10_0 : y10.heap[w.heap.size]? = some (.cells #[.int .i64 a1, .int .i64 a2, .int .i64 a3, .int .i64 a4, .int .i64 a5, .int .i64 a6, .int .u64 (sd : Int), .int .i64 r1, .int .i64 r2, .int .i64 r3, .int .i64 e1, .int .i64 e2, .int .i64 e3, .slice pa np pc, .slice ta nt tc, .slice ja nj jc, .slice sa ns sc] 32 (0, 0)) := by rw [← hy10]; exact hr9_0
  have hr10_1 : y10.heap[y1.heap.size]? = some (.cells #[.int .i64 a1, .int .i64 a2, .int .i64 a3, .int .i64 a4, .int .i64 a5, .int .i64 a6, .int .u64 (sd : Int), .int .i64 r1, .int .i64 r2, .int .i64 r3] 26 (0, 0)) := by rw [← hy10]; exact hr9_1
  have hzd10 : y9.heap.size ≤ y10.heap.size := by rw [← hy10]; exact (Below.refl y9.heap.size y9).drew.size
  have HO10 := Lib.hid (own_on (w' := y10) HO9.out (by rw [← hy10]; exact (Below.refl _ _).drew))
  rw [hy10] at hS0 ⊢
  clear hy10
  refine wpAnyH_take (i := 0) (v := ?_) rfl (by as_aux_lemma => kernel_rfl) (by as_aux_lemma => kernel_rfl) (by as_aux_lemma => kernel_rfl) (fun _ _ _ h => h) (Or.inl ⟨(by as_aux_lemma => kernel_rfl), by (intro wz hSz; go_simp; try with_reducible rfl)⟩) hS0 ?_
  go_simp
  refine wpAnyH_take (i := 1) (v := ?_) rfl (by as_aux_lemma => kernel_rfl) (by as_aux_lemma => kernel_rfl) (by as_aux_lemma => kernel_rfl) (fun _ _ _ h => h) (Or.inl ⟨(by as_aux_lemma => kernel_rfl), by (intro wz hSz; go_simp; try with_reducible rfl)⟩) hS0 ?_
  go_simp
  refine wpAnyH_take (i := 2) (v := ?_) rfl (by as_aux_lemma => kernel_rfl) (by as_aux_lemma => kernel_rfl) (by as_aux_lemma => kernel_rfl) (fun _ _ _ h => h) (Or.inl ⟨(by as_aux_lemma => kernel_rfl), by (intro wz hSz; have c1_5 := cell_of_row _ _ 5 _ _ _ hSz; have c1_6 := cell_of_row _ _ 6 _ _ _ hSz; simp at c1_5 c1_6; go_simp; try with_reducible rfl)⟩) hS0 ?_
  go_simp
  refine wpAnyH_take (i := 3) (v := ?_) rfl (by as_aux_lemma => kernel_rfl) (by as_aux_lemma => kernel_rfl) (by as_aux_lemma => kernel_rfl) (fun _ _ _ h => h) (Or.inl ⟨(by as_aux_lemma => kernel_rfl), by (intro wz hSz; go_simp; try with_reducible rfl)⟩) hS0 ?_
  go_simp
  refine wpAnyH_take (i := 5) (v := ?_) rfl (by as_aux_lemma => kernel_rfl) (by as_aux_lemma => kernel_rfl) (by as_aux_lemma => kernel_rfl) (fun _ _ _ h => h) (Or.inl ⟨(by as_aux_lemma => kernel_rfl), by (intro wz hSz; go_simp; try with_reducible rfl)⟩) hS0 ?_
  go_simp
  refine wpAnyH_take (i := 6) (v := ?_) rfl (by as_aux_lemma => kernel_rfl) (by as_aux_lemma => kernel_rfl) (by as_aux_lemma => kernel_rfl) (fun _ _ _ h => h) (Or.inl ⟨(by as_aux_lemma => kernel_rfl), by (intro wz hSz; have c1_5 := cell_of_row _ _ 5 _ _ _ hSz; have c1_6 := cell_of_row _ _ 6 _ _ _ hSz; simp at c1_5 c1_6; go_simp; try with_reducible rfl)⟩) hS0 ?_
  go_simp
  refine wpAnyH_ready (rs := [4]) (by as_aux_lemma => kernel_rfl) (by simp) ?_
  refine AllReadyH.cons rfl (fun K hK => ?_) AllReadyH.nil
  go_simp
  go_wp2_with (go_at_call 23; refine (num_any ([90, 79, 69, 49] ++ bytesOf (u64 (a1)) 2 ++ bytesOf (u64 (a2)) 2 ++ bytesOf (u64 (a3)) 2 ++ bytesOf (u64 (a4)) 2 ++ bytesOf (u64 (a5)) 2) n0 5 ln0 (by omega) _ _ (Re.own_bs HO10.out) (by first | omega | (simp only [List.length_append, numsOf_length, bytesOf_length, keysOf_length, List.length_cons, List.length_nil]; omega))).mono ?_; rintro e y11 ⟨⟨v11, rfl, ho⟩, hb11⟩; have HO11 := Lib.hid (show y11.ownsRow b0 5 1 v11 ([90, 79, 69, 49] ++ bytesOf (u64 (a1)) 2 ++ bytesOf (u64 (a2)) 2 ++ bytesOf (u64 (a3)) 2 ++ bytesOf (u64 (a4)) 2 ++ bytesOf (u64 (a5)) 2 ++ bytesOf (u64 (a6)) 5).length (vals ([90, 79, 69, 49] ++ bytesOf (u64 (a1)) 2 ++ bytesOf (u64 (a2)) 2 ++ bytesOf (u64 (a3)) 2 ++ bytesOf (u64 (a4)) 2 ++ bytesOf (u64 (a5)) 2 ++ bytesOf (u64 (a6)) 5)) from by rw [← Nn0.out]; exact own_mono ho (by omega)); clear ho; have hzs11 := hb11.size)
  have hr11_0 := (hb11.block _ (lt_heap hr10_0)).trans hr10_0
  have hr11_1 := (hb11.block _ (lt_heap hr10_1)).trans hr10_1
  have HU11 := Lib.hid (HU10.out.trans (hb11.mono HU10.out.size))
  refine hK.out _ _ ((hb11.block _ (lt_heap hS0)).trans hS0) (fun hS11c => ?_)
  clear hK K
  refine wpAnyH_ready (rs := [7]) (by as_aux_lemma => kernel_rfl) (by simp) ?_
  refine AllReadyH.cons rfl (fun K hK => ?_) AllReadyH.nil
  go_simp
  go_wp2_with (go_at_call 23; refine (num_any ([90, 79, 69, 49] ++ bytesOf (u64 (a1)) 2 ++ bytesOf (u64 (a2)) 2 ++ bytesOf (u64 (a3)) 2 ++ bytesOf (u64 (a4)) 2 ++ bytesOf (u64 (a5)) 2 ++ bytesOf (u64 (a6)) 5) sd 8 HSD.out (by omega) _ _ (Re.own_bs HO11.out) (by first | omega | (simp only [List.length_append, numsOf_length, bytesOf_length, keysOf_length, List.length_cons, List.length_nil]; omega))).mono ?_; rintro e y12 ⟨⟨v12, rfl, ho⟩, hb12⟩; have HO12 := Lib.hid (show y12.ownsRow b0 5 1 v12 ([90, 79, 69, 49] ++ bytesOf (u64 (a1)) 2 ++ bytesOf (u64 (a2)) 2 ++ bytesOf (u64 (a3)) 2 ++ bytesOf (u64 (a4)) 2 ++ bytesOf (u64 (a5)) 2 ++ bytesOf (u64 (a6)) 5 ++ bytesOf (sd) 8).length (vals ([90, 79, 69, 49] ++ bytesOf (u64 (a1)) 2 ++ bytesOf (u64 (a2)) 2 ++ bytesOf (u64 (a3)) 2 ++ bytesOf (u64 (a4)) 2 ++ bytesOf (u64 (a5)) 2 ++ bytesOf (u64 (a6)) 5 ++ bytesOf (sd) 8)) from own_mono ho (by omega)); clear ho; have hzs12 := hb12.size)
  have hr12_0 := (hb12.block _ (lt_heap hr11_0)).trans hr11_0
  have hr12_1 := (hb12.block _ (lt_heap hr11_1)).trans hr11_1
  have HU12 := Lib.hid (HU11.out.trans (hb12.mono HU11.out.size))
  refine hK.out _ _ ((hb12.block _ (lt_heap hS11c)).trans hS11c) (fun hS12c => ?_)
  clear hK K
  refine wpAnyH_take (i := 8) (v := ?_) rfl (by as_aux_lemma => kernel_rfl) (by as_aux_lemma => kernel_rfl) (by as_aux_lemma => kernel_rfl) (fun _ _ _ h => h) (Or.inl ⟨(by as_aux_lemma => kernel_rfl), by (intro wz hSz; go_simp; try with_reducible rfl)⟩) hS12c ?_
  go_simp
  refine wpAnyH_done (by as_aux_lemma => kernel_rfl) ?_ _
  clear wn0 ln0 Nn0
  have c1_7 := cell_of_row _ _ 7 _ _ _ hr12_1
  have c1_8 := cell_of_row _ _ 8 _ _ _ hr12_1
  have c1_9 := cell_of_row _ _ 9 _ _ _ hr12_1
  simp at c1_7 c1_8 c1_9
  go_wp2_with fail
  clear c1_7 c1_8 c1_9
  refine (dvec_any ([90, 79, 69, 49] ++ bytesOf (u64 (a1)) 2 ++ bytesOf (u64 (a2)) 2 ++ bytesOf (u64 (a3)) 2 ++ bytesOf (u64 (a4)) 2 ++ bytesOf (u64 (a5)) 2 ++ bytesOf (u64 (a6)) 5 ++ bytesOf (sd) 8) (r1) (r2) (r3) _ _ (Re.own_bs HO12.out) (by first | omega | (simp only [List.length_append, numsOf_length, bytesOf_length, keysOf_length, List.length_cons, List.length_nil]; omega))).mono ?_
  rintro e y13 ⟨⟨v13, rfl, ho⟩, hb13⟩
  have HO13 := Lib.hid (show y13.ownsRow b0 5 1 v13 ([90, 79, 69, 49] ++ bytesOf (u64 (a1)) 2 ++ bytesOf (u64 (a2)) 2 ++ bytesOf (u64 (a3)) 2 ++ bytesOf (u64 (a4)) 2 ++ bytesOf (u64 (a5)) 2 ++ bytesOf (u64 (a6)) 5 ++ bytesOf (sd) 8 ++ numsOf 5 [r1, r2, r3]).length (vals ([90, 79, 69, 49] ++ bytesOf (u64 (a1)) 2 ++ bytesOf (u64 (a2)) 2 ++ bytesOf (u64 (a3)) 2 ++ bytesOf (u64 (a4)) 2 ++ bytesOf (u64 (a5)) 2 ++ bytesOf (u64 (a6)) 5 ++ bytesOf (sd) 8 ++ numsOf 5 [r1, r2, r3])) from own_mono ho (by omega))
  have hzs13 := (hb13).size
  have hr13_0 := (hb13.block _ (lt_heap hr12_0)).trans hr12_0
  have hr13_1 := (hb13.block _ (lt_heap hr12_1)).trans hr12_1
  have HU13 := Lib.hid (HU12.out.trans (hb13.mono HU12.out.size))
  clear hr12_0 hr12_1 HU12
  clear HO12
  clear ho
  obtain ⟨n0, hn0⟩ : ∃ n : Nat, n = u64 (e1) := ⟨_, rfl⟩
  have wn0 : IntKind.u64.wrap (e1) = (n0 : Int) := by rw [hn0, u64_wrap]
  have ln0 : n0 < 18446744073709551616 := by rw [hn0]; exact u64_lt _
  have Nn0 := Lib.hid hn0
  clear hn0
  obtain ⟨n1, hn1⟩ : ∃ n : Nat, n = u64 (e2) := ⟨_, rfl⟩
  have wn1 : IntKind.u64.wrap (e2) = (n1 : Int) := by rw [hn1, u64_wrap]
  have ln1 : n1 < 18446744073709551616 := by rw [hn1]; exact u64_lt _
  have Nn1 := Lib.hid hn1
  clear hn1
  go_upto_region 9 with fail
  refine wp_region_held_drew (S := fun y => y.heap[w.heap.size]? = some (.cells #[.int .i64 a1, .int .i64 a2, .int .i64 a3, .int .i64 a4, .int .i64 a5, .int .i64 a6, .int .u64 (sd : Int), .int .i64 r1, .int .i64 r2, .int .i64 r3, .int .i64 e1, .int .i64 e2, .int .i64 e3, .slice pa np pc, .slice ta nt tc, .slice ja nj jc, .slice sa ns sc] 32 (0, 0))) (by as_aux_lemma => kernel_rfl) (hr13_0) (fun hS0 => ?_)
  obtain ⟨y14, hy14⟩ : ∃ y, y13.drew = y := ⟨_, rfl⟩
  have HU14 := Lib.hid (show Below w.heap.size w y14 by rw [← hy14]; exact HU13.out.drew)
  have hr14_0 : y14.heap[w.heap.size]? = some (.cells #[.int .i64 a1, .int .i64 a2, .int .i64 a3, .int .i64 a4, .int .i64 a5, .int .i64 a6, .int .u64 (sd : Int), .int .i64 r1, .int .i64 r2, .int .i64 r3, .int .i64 e1, .int .i64 e2, .int .i64 e3, .slice pa np pc, .slice ta nt tc, .slice ja nj jc, .slice sa ns sc] 32 (0, 0)) := by rw [← hy14]; exact hr13_0
  have hzd14 : y13.heap.size ≤ y14.heap.size := by rw [← hy14]; exact (Below.refl y13.heap.size y13).drew.size
  have HO14 := Lib.hid (own_on (w' := y14) HO13.out (by rw [← hy14]; exact (Below.refl _ _).drew))
  rw [hy14] at hS0 ⊢
  clear hy14
  refine wpAnyH_take (i := 0) (v := ?_) rfl (by as_aux_lemma => kernel_rfl) (by as_aux_lemma => kernel_rfl) (by as_aux_lemma => kernel_rfl) (fun _ _ _ h => h) (Or.inl ⟨(by as_aux_lemma => kernel_rfl), by (intro wz hSz; go_simp; try with_reducible rfl)⟩) hS0 ?_
  go_simp
  refine wpAnyH_take (i := 1) (v := ?_) rfl (by as_aux_lemma => kernel_rfl) (by as_aux_lemma => kernel_rfl) (by as_aux_lemma => kernel_rfl) (fun _ _ _ h => h) (Or.inl ⟨(by as_aux_lemma => kernel_rfl), by (intro wz hSz; go_simp; try with_reducible rfl)⟩) hS0 ?_
  go_simp
  refine wpAnyH_take (i := 2) (v := ?_) rfl (by as_aux_lemma => kernel_rfl) (by as_aux_lemma => kernel_rfl) (by as_aux_lemma => kernel_rfl) (fun _ _ _ h => h) (Or.inl ⟨(by as_aux_lemma => kernel_rfl), by (intro wz hSz; have c0_10 := cell_of_row _ _ 10 _ _ _ hSz; have c0_11 := cell_of_row _ _ 11 _ _ _ hSz; simp at c0_10 c0_11; go_simp; try with_reducible rfl)⟩) hS0 ?_
  go_simp
  refine wpAnyH_take (i := 3) (v := ?_) rfl (by as_aux_lemma => kernel_rfl) (by as_aux_lemma => kernel_rfl) (by as_aux_lemma => kernel_rfl) (fun _ _ _ h => h) (Or.inl ⟨(by as_aux_lemma => kernel_rfl), by (intro wz hSz; go_simp; try with_reducible rfl)⟩) hS0 ?_
  go_simp
  refine wpAnyH_take (i := 5) (v := ?_) rfl (by as_aux_lemma => kernel_rfl) (by as_aux_lemma => kernel_rfl) (by as_aux_lemma => kernel_rfl) (fun _ _ _ h => h) (Or.inl ⟨(by as_aux_lemma => kernel_rfl), by (intro wz hSz; go_simp; try with_reducible rfl)⟩) hS0 ?_
  go_simp
  refine wpAnyH_take (i := 6) (v := ?_) rfl (by as_aux_lemma => kernel_rfl) (by as_aux_lemma => kernel_rfl) (by as_aux_lemma => kernel_rfl) (fun _ _ _ h => h) (Or.inl ⟨(by as_aux_lemma => kernel_rfl), by (intro wz hSz; have c0_10 := cell_of_row _ _ 10 _ _ _ hSz; have c0_11 := cell_of_row _ _ 11 _ _ _ hSz; simp at c0_10 c0_11; go_simp; try with_reducible rfl)⟩) hS0 ?_
  go_simp
  refine wpAnyH_take (i := 7) (v := ?_) rfl (by as_aux_lemma => kernel_rfl) (by as_aux_lemma => kernel_rfl) (by as_aux_lemma => kernel_rfl) (fun _ _ _ h => h) (Or.inl ⟨(by as_aux_lemma => kernel_rfl), by (intro wz hSz; go_simp; try with_reducible rfl)⟩) hS0 ?_
  go_simp
  refine wpAnyH_ready (rs := [4]) (by as_aux_lemma => kernel_rfl) (by simp) ?_
  refine AllReadyH.cons rfl (fun K hK => ?_) AllReadyH.nil
  go_simp
  go_wp2_with (go_at_call 23; refine (num_any ([90, 79, 69, 49] ++ bytesOf (u64 (a1)) 2 ++ bytesOf (u64 (a2)) 2 ++ bytesOf (u64 (a3)) 2 ++ bytesOf (u64 (a4)) 2 ++ bytesOf (u64 (a5)) 2 ++ bytesOf (u64 (a6)) 5 ++ bytesOf (sd) 8 ++ numsOf 5 [r1, r2, r3]) n0 2 ln0 (by omega) _ _ (Re.own_bs HO14.out) (by first | omega | (simp only [List.length_append, numsOf_length, bytesOf_length, keysOf_length, List.length_cons, List.length_nil]; omega))).mono ?_; rintro e y15 ⟨⟨v15, rfl, ho⟩, hb15⟩; have HO15 := Lib.hid (show y15.ownsRow b0 5 1 v15 ([90, 79, 69, 49] ++ bytesOf (u64 (a1)) 2 ++ bytesOf (u64 (a2)) 2 ++ bytesOf (u64 (a3)) 2 ++ bytesOf (u64 (a4)) 2 ++ bytesOf (u64 (a5)) 2 ++ bytesOf (u64 (a6)) 5 ++ bytesOf (sd) 8 ++ numsOf 5 [r1, r2, r3] ++ bytesOf (u64 (e1)) 2).length (vals ([90, 79, 69, 49] ++ bytesOf (u64 (a1)) 2 ++ bytesOf (u64 (a2)) 2 ++ bytesOf (u64 (a3)) 2 ++ bytesOf (u64 (a4)) 2 ++ bytesOf (u64 (a5)) 2 ++ bytesOf (u64 (a6)) 5 ++ bytesOf (sd) 8 ++ numsOf 5 [r1, r2, r3] ++ bytesOf (u64 (e1)) 2)) from by rw [← Nn0.out]; exact own_mono ho (by omega)); clear ho; have hzs15 := hb15.size)
  have hr15_0 := (hb15.block _ (lt_heap hr14_0)).trans hr14_0
  have HU15 := Lib.hid (HU14.out.trans (hb15.mono HU14.out.size))
  refine hK.out _ _ ((hb15.block _ (lt_heap hS0)).trans hS0) (fun hS15c => ?_)
  clear hK K
  refine wpAnyH_ready (rs := [8]) (by as_aux_lemma => kernel_rfl) (by simp) ?_
  refine AllReadyH.cons rfl (fun K hK => ?_) AllReadyH.nil
  go_simp
  go_wp2_with (go_at_call 23; refine (num_any ([90, 79, 69, 49] ++ bytesOf (u64 (a1)) 2 ++ bytesOf (u64 (a2)) 2 ++ bytesOf (u64 (a3)) 2 ++ bytesOf (u64 (a4)) 2 ++ bytesOf (u64 (a5)) 2 ++ bytesOf (u64 (a6)) 5 ++ bytesOf (sd) 8 ++ numsOf 5 [r1, r2, r3] ++ bytesOf (u64 (e1)) 2) n1 2 ln1 (by omega) _ _ (Re.own_bs HO15.out) (by first | omega | (simp only [List.length_append, numsOf_length, bytesOf_length, keysOf_length, List.length_cons, List.length_nil]; omega))).mono ?_; rintro e y16 ⟨⟨v16, rfl, ho⟩, hb16⟩; have HO16 := Lib.hid (show y16.ownsRow b0 5 1 v16 ([90, 79, 69, 49] ++ bytesOf (u64 (a1)) 2 ++ bytesOf (u64 (a2)) 2 ++ bytesOf (u64 (a3)) 2 ++ bytesOf (u64 (a4)) 2 ++ bytesOf (u64 (a5)) 2 ++ bytesOf (u64 (a6)) 5 ++ bytesOf (sd) 8 ++ numsOf 5 [r1, r2, r3] ++ bytesOf (u64 (e1)) 2 ++ bytesOf (u64 (e2)) 2).length (vals ([90, 79, 69, 49] ++ bytesOf (u64 (a1)) 2 ++ bytesOf (u64 (a2)) 2 ++ bytesOf (u64 (a3)) 2 ++ bytesOf (u64 (a4)) 2 ++ bytesOf (u64 (a5)) 2 ++ bytesOf (u64 (a6)) 5 ++ bytesOf (sd) 8 ++ numsOf 5 [r1, r2, r3] ++ bytesOf (u64 (e1)) 2 ++ bytesOf (u64 (e2)) 2)) from by rw [← Nn1.out]; exact own_mono ho (by omega)); clear ho; have hzs16 := hb16.size)
  have hr16_0 := (hb16.block _ (lt_heap hr15_0)).trans hr15_0
  have HU16 := Lib.hid (HU15.out.trans (hb16.mono HU15.out.size))
  refine hK.out _ _ ((hb16.block _ (lt_heap hS15c)).trans hS15c) (fun hS16c => ?_)
  clear hK K
  refine wpAnyH_take (i := 9) (v := ?_) rfl (by as_aux_lemma => kernel_rfl) (by as_aux_lemma => kernel_rfl) (by as_aux_lemma => kernel_rfl) (fun _ _ _ h => h) (Or.inl ⟨(by as_aux_lemma => kernel_rfl), by (intro wz hSz; go_simp; try with_reducible rfl)⟩) hS16c ?_
  go_simp
  refine wpAnyH_done (by as_aux_lemma => kernel_rfl) ?_ _
  clear wn0 ln0 Nn0 wn1 ln1 Nn1
  obtain ⟨nx, hnx⟩ : ∃ n : Nat, n = u64 (e3) := ⟨_, rfl⟩
  have wnx : IntKind.u64.wrap (e3) = (nx : Int) := by rw [hnx, u64_wrap]
  have lnx : nx < 18446744073709551616 := by rw [hnx]; exact u64_lt _
  have Nnx := Lib.hid hnx
  clear hnx
  have c0_12 := cell_of_row _ _ 12 _ _ _ hr16_0
  simp at c0_12
  go_wp2_with fail
  clear c0_12
  refine (num_any ([90, 79, 69, 49] ++ bytesOf (u64 (a1)) 2 ++ bytesOf (u64 (a2)) 2 ++ bytesOf (u64 (a3)) 2 ++ bytesOf (u64 (a4)) 2 ++ bytesOf (u64 (a5)) 2 ++ bytesOf (u64 (a6)) 5 ++ bytesOf (sd) 8 ++ numsOf 5 [r1, r2, r3] ++ bytesOf (u64 (e1)) 2 ++ bytesOf (u64 (e2)) 2) nx 5 lnx (by omega) _ _ (Re.own_bs HO16.out) (by first | omega | (simp only [List.length_append, numsOf_length, bytesOf_length, keysOf_length, List.length_cons, List.length_nil]; omega))).mono ?_
  rintro e y17 ⟨⟨v17, rfl, ho⟩, hb17⟩
  have HO17 := Lib.hid (show y17.ownsRow b0 5 1 v17 ([90, 79, 69, 49] ++ bytesOf (u64 (a1)) 2 ++ bytesOf (u64 (a2)) 2 ++ bytesOf (u64 (a3)) 2 ++ bytesOf (u64 (a4)) 2 ++ bytesOf (u64 (a5)) 2 ++ bytesOf (u64 (a6)) 5 ++ bytesOf (sd) 8 ++ numsOf 5 [r1, r2, r3] ++ bytesOf (u64 (e1)) 2 ++ bytesOf (u64 (e2)) 2 ++ bytesOf (u64 (e3)) 5).length (vals ([90, 79, 69, 49] ++ bytesOf (u64 (a1)) 2 ++ bytesOf (u64 (a2)) 2 ++ bytesOf (u64 (a3)) 2 ++ bytesOf (u64 (a4)) 2 ++ bytesOf (u64 (a5)) 2 ++ bytesOf (u64 (a6)) 5 ++ bytesOf (sd) 8 ++ numsOf 5 [r1, r2, r3] ++ bytesOf (u64 (e1)) 2 ++ bytesOf (u64 (e2)) 2 ++ bytesOf (u64 (e3)) 5)) from by rw [← Nnx.out]; exact own_mono ho (by omega))
  have hzs17 := (hb17).size
  have hr17_0 := (hb17.block _ (lt_heap hr16_0)).trans hr16_0
  have HU17 := Lib.hid (HU16.out.trans (hb17.mono HU16.out.size))
  clear hr16_0 HU16
  clear HO16
  clear ho
  clear wnx lnx Nnx
  obtain ⟨L9, hL9⟩ : ∃ L, L = [90, 79, 69, 49] ++ bytesOf (u64 (a1)) 2 ++ bytesOf (u64 (a2)) 2 ++ bytesOf (u64 (a3)) 2 ++ bytesOf (u64 (a4)) 2 ++ bytesOf (u64 (a5)) 2 ++ bytesOf (u64 (a6)) 5 ++ bytesOf (sd) 8 ++ numsOf 5 [r1, r2, r3] ++ bytesOf (u64 (e1)) 2 ++ bytesOf (u64 (e2)) 2 ++ bytesOf (u64 (e3)) 5 := ⟨_, rfl⟩
  have hl9 : L9.length ≤ 1000 := by rw [hL9]; first | omega | (simp only [List.length_append, numsOf_length, bytesOf_length, keysOf_length, List.length_cons, List.length_nil]; omega)
  rw [← hL9] at HO17
  have HLL9 := Lib.hid hL9
  clear hL9
  obtain ⟨c1, hc1⟩ : ∃ x : UInt8, x = byteAt (u64 ((np : Int))) 0 := ⟨_, rfl⟩
  have wc1 : ((np : Int) : Int) % 256 = (c1.toNat : Int) := one_is _ _ hc1
  have Nc1 := Lib.hid hc1
  clear hc1
  have Dc1 := Lib.hid (show ((np : Int) : Int) = (c1.toNat : Int) by omega)
  clear wc1
  obtain ⟨c2x, hc2x⟩ : ∃ x : UInt8, x = byteAt (u64 ((nt : Int))) 0 := ⟨_, rfl⟩
  have wc2x : ((nt : Int) : Int) % 256 = (c2x.toNat : Int) := one_is _ _ hc2x
  have Nc2x := Lib.hid hc2x
  clear hc2x
  have Dc2x := Lib.hid (show ((nt : Int) : Int) = (c2x.toNat : Int) by omega)
  clear wc2x
  obtain ⟨c3, hc3⟩ : ∃ x : UInt8, x = byteAt (u64 ((nj : Int))) 0 := ⟨_, rfl⟩
  have wc3 : ((nj : Int) : Int) % 256 = (c3.toNat : Int) := one_is _ _ hc3
  have Nc3 := Lib.hid hc3
  clear hc3
  have Dc3 := Lib.hid (show ((nj : Int) : Int) = (c3.toNat : Int) by omega)
  clear wc3
  obtain ⟨c4, hc4⟩ : ∃ x : UInt8, x = byteAt (u64 ((ns : Int))) 0 := ⟨_, rfl⟩
  have wc4 : ((ns : Int) : Int) % 256 = (c4.toNat : Int) := one_is _ _ hc4
  have Nc4 := Lib.hid hc4
  clear hc4
  have Dc4 := Lib.hid (show ((ns : Int) : Int) = (c4.toNat : Int) by omega)
  clear wc4
  obtain ⟨i0, hi, hz0, hz1, hz2⟩ := info_parts infoByte
  have HI := Lib.hid (HO17.out.alloc (.cells #[.int .u8 ((np : Int)), .int .u8 ((nt : Int)), .int .u8 ((nj : Int)), .int .u8 ((ns : Int))] 5))
  have HVV := Lib.hid (show ∀ j u, (vals [c1, c2x, c3, c4])[j]? = some u → (y17.alloc (.cells #[.int .u8 ((np : Int)), .int .u8 ((nt : Int)), .int .u8 ((nj : Int)), .int .u8 ((ns : Int))] 5)).cell? ((⟨y17.heap.size, 0, none⟩ : Addr).add j) = some u by rw [Dc1.out, Dc2x.out, Dc3.out, Dc4.out]; exact lit_cells [c1, c2x, c3, c4] y17 5)
  have hlen : (L9).length + 4 ≤ 140737488355328 := by first | omega | (simp only [List.length_append, numsOf_length, bytesOf_length, keysOf_length, List.length_cons, List.length_nil]; omega)
  have c0_13 := cell_of_row _ _ 13 _ _ _ hr17_0
  have c0_14 := cell_of_row _ _ 14 _ _ _ hr17_0
  have c0_15 := cell_of_row _ _ 15 _ _ _ hr17_0
  have c0_16 := cell_of_row _ _ 16 _ _ _ hr17_0
  simp at c0_13 c0_14 c0_15 c0_16
  go_wp2_with (first | (at_builtin; refine wpList_append_own _ rfl _ _ 35 rfl b0 5 i0 (.int .u8 0) 1 1 Tryz.underlying35 hi hz0 hz1 hz2 rfl (by decide) _ _ _ rfl HI.out ⟨y17.heap.size, 0, none⟩ 4 4 (vals [c1, c2x, c3, c4]) rfl rfl HVV.out (vals_one _) ?d3 ?d4 ?d5 ?_))
  clear c0_13 c0_14 c0_15 c0_16
  case d3 => unfold maxLen; omega
  case d4 => omega
  case d5 => simp; omega
  intro v18 y18 hown2 hgrow2 _
  have hzm := HU17.out.size
  have hbx := Ve.below_n1 y17 (.cells #[.int .u8 ((np : Int)), .int .u8 ((nt : Int)), .int .u8 ((nj : Int)), .int .u8 ((ns : Int))] 5)
  have hzs18 := Nat.le_trans hbx.size hgrow2.size
  have hU18 := (HU17.out.trans (hbx.mono hzm)).grown hgrow2 (by have := hbx.size; omega) (fun q hq => by have := (HO17.out.lt q hq).1; omega)
  have hr18_0 := (hgrow2.block _ (Nat.lt_of_lt_of_le (lt_heap hr17_0) hbx.size) (fun e => by have hl1 := HO17.out.lt _ e.symm; have hl2 := lt_heap hr17_0; first | omega | (have hl3 := HOX.out _ e.symm; omega))).trans ((hbx.block _ (lt_heap hr17_0)).trans hr17_0)
  have HU18 := Lib.hid hU18
  have HO18 := Lib.hid (show y18.ownsRow b0 5 1 v18 (L9 ++ numsOf 1 [(np : Int), (nt : Int), (nj : Int), (ns : Int)]).length (vals (L9 ++ numsOf 1 [(np : Int), (nt : Int), (nj : Int), (ns : Int)])) by rw [show numsOf 1 [(np : Int), (nt : Int), (nj : Int), (ns : Int)] = [c1, c2x, c3, c4] by rw [Nc1.out, Nc2x.out, Nc3.out, Nc4.out]; simp only [nums1, numsOf_nil], vals_append, List.length_append]; exact hown2)
  clear hown2 hgrow2 hbx hU18 HI HVV hlen hi hz0 hz1 hz2 HO17 Dc1 Nc1 Dc2x Nc2x Dc3 Nc3 Dc4 Nc4 hr17_0 HU17
  have hz18 := HU18.out.size
  obtain ⟨L0, hL0⟩ : ∃ L, L = L9 ++ numsOf 1 [(np : Int), (nt : Int), (nj : Int), (ns : Int)] := ⟨_, rfl⟩
  have hl0 : L0.length ≤ 2000 := by rw [hL0]; first | omega | (simp only [List.length_append, numsOf_length, bytesOf_length, keysOf_length, List.length_cons, List.length_nil]; omega)
  rw [← hL0] at HO18
  have HLL0 := Lib.hid hL0
  clear hL0
  have c0_13 := cell_of_row _ _ 13 _ _ _ hr18_0
  have c0_14 := cell_of_row _ _ 14 _ _ _ hr18_0
  have c0_15 := cell_of_row _ _ 15 _ _ _ hr18_0
  have c0_16 := cell_of_row _ _ 16 _ _ _ hr18_0
  simp at c0_13 c0_14 c0_15 c0_16
  go_upto_region 13 with fail
  clear c0_13 c0_14 c0_15 c0_16
  go_loopw [7, 8] (fun v i wr => ∃ k : Nat, k ≤ np ∧ i = .int .i64 k ∧ wr.heap[w.heap.size]? = some (.cells #[.int .i64 a1, .int .i64 a2, .int .i64 a3, .int .i64 a4, .int .i64 a5, .int .i64 a6, .int .u64 (sd : Int), .int .i64 r1, .int .i64 r2, .int .i64 r3, .int .i64 e1, .int .i64 e2, .int .i64 e3, .slice pa np pc, .slice ta nt tc, .slice ja nj jc, .slice sa ns sc] 32 (0, 0)) ∧ Hid (wr.ownsRow b0 5 1 v (L0 ++ paintsOf P k).length (vals (L0 ++ paintsOf P k))) ∧ Hid (Below w.heap.size w wr) ∧ b0 ≤ wr.heap.size) (fun _ i _ => np - (intOf i).toNat)
  case atStart => exact ⟨0, by omega, rfl, hr18_0, Lib.hid (by rw [paintsOf, List.append_nil]; exact HO18.out), HU18, by omega⟩
  case round =>
    clear hr18_0 HO18 HU18
    obtain ⟨k, hk, rfl, hr38_0, HO38, HU38, hbr⟩ := hrel
    obtain ⟨y38, rfl⟩ : ∃ y : World, y = wr := ⟨_, rfl⟩
    have hz38 := HU38.out.size
    have hl38_0 := lt_heap hr38_0
    by_cases hlt : k < np
    · have hlt' : (k : Int) < np := by omega
      have hlk1 := (show (paintsOf P k).length ≤ 200 * 4002 from (by rw [paintsOf_length]; omega))
      have hlL1 : (L0 ++ paintsOf P k).length ≤ 802400 := by rw [List.length_append]; omega
      obtain ⟨LK, hLK⟩ : ∃ L, L = L0 ++ paintsOf P k := ⟨_, rfl⟩
      rw [← hLK] at HO38 hlL1
      have HLK := Lib.hid hLK
      clear hLK
      obtain ⟨eb, eoff, hpx, heb, k0, k1, k2, k3, k4⟩ := nums5 (HPP.out _ HU38.out) hlt
      obtain ⟨x0, hx0⟩ : ∃ v, v = P (k * 5) := ⟨_, rfl⟩
      rw [← hx0] at k0
      obtain ⟨x1, hx1⟩ : ∃ v, v = P (k * 5 + 1) := ⟨_, rfl⟩
      rw [← hx1] at k1
      obtain ⟨x2, hx2⟩ : ∃ v, v = P (k * 5 + 2) := ⟨_, rfl⟩
      rw [← hx2] at k2
      obtain ⟨x3, hx3⟩ : ∃ v, v = P (k * 5 + 3) := ⟨_, rfl⟩
      rw [← hx3] at k3
      obtain ⟨x4, hx4⟩ : ∃ v, v = P (k * 5 + 4) := ⟨_, rfl⟩
      rw [← hx4] at k4
      have HKK := Lib.hid (show paintsOf P (k + 1) = paintsOf P k ++ (numsOf 1 [x0] ++ (numsOf 5 [x1, x2, x3] ++ numsOf 5 [x4])) by simp only [hx0, hx1, hx2, hx3, hx4]; rfl)
      clear hx0 hx1 hx2 hx3 hx4
      have c0_0 := cell_of_row _ _ 0 _ _ _ hr38_0
      have c0_1 := cell_of_row _ _ 1 _ _ _ hr38_0
      have c0_2 := cell_of_row _ _ 2 _ _ _ hr38_0
      have c0_3 := cell_of_row _ _ 3 _ _ _ hr38_0
      have c0_4 := cell_of_row _ _ 4 _ _ _ hr38_0
      have c0_5 := cell_of_row _ _ 5 _ _ _ hr38_0
      have c0_6 := cell_of_row _ _ 6 _ _ _ hr38_0
      have c0_7 := cell_of_row _ _ 7 _ _ _ hr38_0
      have c0_8 := cell_of_row _ _ 8 _ _ _ hr38_0
      have c0_9 := cell_of_row _ _ 9 _ _ _ hr38_0
      have c0_10 := cell_of_row _ _ 10 _ _ _ hr38_0
      have c0_11 := cell_of_row _ _ 11 _ _ _ hr38_0
      have c0_12 := cell_of_row _ _ 12 _ _ _ hr38_0
      have c0_13 := cell_of_row _ _ 13 _ _ _ hr38_0
      have c0_14 := cell_of_row _ _ 14 _ _ _ hr38_0
      have c0_15 := cell_of_row _ _ 15 _ _ _ hr38_0
      have c0_16 := cell_of_row _ _ 16 _ _ _ hr38_0
      simp at c0_0 c0_1 c0_2 c0_3 c0_4 c0_5 c0_6 c0_7 c0_8 c0_9 c0_10 c0_11 c0_12 c0_13 c0_14 c0_15 c0_16
      go_upto_region 16 with fail
      clear c0_0 c0_1 c0_2 c0_3 c0_4 c0_5 c0_6 c0_7 c0_8 c0_9 c0_10 c0_11 c0_12 c0_13 c0_14 c0_15 c0_16
      clear hpx k0 k1 k2 k3 k4
      have HOX := Lib.hid (fun q hq => (HO38.out.lt q hq).2)
      have hb39 := Ve.below_n1 y38 (.cells #[.int .i64 x0, .int .i64 x1, .int .i64 x2, .int .i64 x3, .int .i64 x4] 76)
      have hN := heap_alloc_last y38 (.cells #[.int .i64 x0, .int .i64 x1, .int .i64 x2, .int .i64 x3, .int .i64 x4] 76)
      obtain ⟨y39, hy39⟩ : ∃ y, y38.alloc (.cells #[.int .i64 x0, .int .i64 x1, .int .i64 x2, .int .i64 x3, .int .i64 x4] 76) = y := ⟨_, rfl⟩
      have hs39 : y39.heap.size = y38.heap.size + 1 := by rw [← hy39]; simp
      rw [hy39] at hb39 hN ⊢
      clear hy39
      have hl39_0 := lt_heap hr38_0
      have HO39 := Lib.hid (own_on HO38.out hb39)
      have hzs39 := (hb39).size
      have hr39_0 := (hb39.block _ (lt_heap hr38_0)).trans hr38_0
      have HU39 := Lib.hid (HU38.out.trans (hb39.mono HU38.out.size))
      clear hr38_0 HU38
      clear HO38
      have hr39_1 := hN
      clear hN
      replace hs39 : y38.heap.size < y39.heap.size := by omega
      obtain ⟨nx, hnx⟩ : ∃ n : Nat, n = u64 (x0) := ⟨_, rfl⟩
      have wnx : IntKind.u64.wrap (x0) = (nx : Int) := by rw [hnx, u64_wrap]
      have lnx : nx < 18446744073709551616 := by rw [hnx]; exact u64_lt _
      have Nnx := Lib.hid hnx
      clear hnx
      have c1_0 := cell_of_row _ _ 0 _ _ _ hr39_1
      have c1_1 := cell_of_row _ _ 1 _ _ _ hr39_1
      have c1_2 := cell_of_row _ _ 2 _ _ _ hr39_1
      have c1_3 := cell_of_row _ _ 3 _ _ _ hr39_1
      have c1_4 := cell_of_row _ _ 4 _ _ _ hr39_1
      simp at c1_0 c1_1 c1_2 c1_3 c1_4
      go_wp2_with fail
      clear c1_0 c1_1 c1_2 c1_3 c1_4
      refine (num_any (LK) nx 1 lnx (by omega) _ _ (Re.own_bs HO39.out) (by first | omega | (simp only [List.length_append, numsOf_length, bytesOf_length, keysOf_length, List.length_cons, List.length_nil]; omega))).mono ?_
      rintro e y40 ⟨⟨v40, rfl, ho⟩, hb40⟩
      have HO40 := Lib.hid (show y40.ownsRow b0 5 1 v40 (LK ++ bytesOf (u64 (x0)) 1).length (vals (LK ++ bytesOf (u64 (x0)) 1)) from by rw [← Nnx.out]; exact own_mono ho (by omega))
      have hzs40 := (hb40).size
      have hr40_0 := (hb40.block _ (lt_heap hr39_0)).trans hr39_0
      have hr40_1 := (hb40.block _ (lt_heap hr39_1)).trans hr39_1
      have HU40 := Lib.hid (HU39.out.trans (hb40.mono HU39.out.size))
      clear hr39_0 hr39_1 HU39
      clear HO39
      clear ho
      clear wnx lnx Nnx
      obtain ⟨n1, hn1⟩ : ∃ n : Nat, n = u64 (x4) := ⟨_, rfl⟩
      have wn1 : IntKind.u64.wrap (x4) = (n1 : Int) := by rw [hn1, u64_wrap]
      have ln1 : n1 < 18446744073709551616 := by rw [hn1]; exact u64_lt _
      have Nn1 := Lib.hid hn1
      clear hn1
      go_upto_region 17 with fail
      refine wp_region_held_drew (S := fun y => y.heap[y38.heap.size]? = some (.cells #[.int .i64 x0, .int .i64 x1, .int .i64 x2, .int .i64 x3, .int .i64 x4] 76 (0, 0))) (by as_aux_lemma => kernel_rfl) (hr40_1) (fun hS0 => ?_)
      obtain ⟨y41, hy41⟩ : ∃ y, y40.drew = y := ⟨_, rfl⟩
      have HU41 := Lib.hid (show Below w.heap.size w y41 by rw [← hy41]; exact HU40.out.drew)
      have hr41_0 : y41.heap[w.heap.size]? = some (.cells #[.int .i64 a1, .int .i64 a2, .int .i64 a3, .int .i64 a4, .int .i64 a5, .int .i64 a6, .int .u64 (sd : Int), .int .i64 r1, .int .i64 r2, .int .i64 r3, .int .i64 e1, .int .i64 e2, .int .i64 e3, .slice pa np pc, .slice ta nt tc, .slice ja nj jc, .slice sa ns sc] 32 (0, 0)) := by rw [← hy41]; exact hr40_0
      have hr41_1 : y41.heap[y38.heap.size]? = some (.cells #[.int .i64 x0, .int .i64 x1, .int .i64 x2, .int .i64 x3, .int .i64 x4] 76 (0, 0)) := by rw [← hy41]; exact hr40_1
      have hzd41 : y40.heap.size ≤ y41.heap.size := by rw [← hy41]; exact (Below.refl y40.heap.size y40).drew.size
      have HO41 := Lib.hid (own_on (w' := y41) HO40.out (by rw [← hy41]; exact (Below.refl _ _).drew))
      rw [hy41] at hS0 ⊢
      clear hy41
      refine wpAnyH_take (i := 0) (v := ?_) rfl (by as_aux_lemma => kernel_rfl) (by as_aux_lemma => kernel_rfl) (by as_aux_lemma => kernel_rfl) (fun _ _ _ h => h) (Or.inl ⟨(by as_aux_lemma => kernel_rfl), by (intro wz hSz; go_simp; try with_reducible rfl)⟩) hS0 ?_
      go_simp
      refine wpAnyH_take (i := 1) (v := ?_) rfl (by as_aux_lemma => kernel_rfl) (by as_aux_lemma => kernel_rfl) (by as_aux_lemma => kernel_rfl) (fun _ _ _ h => h) (Or.inl ⟨(by as_aux_lemma => kernel_rfl), by (intro wz hSz; go_simp; try with_reducible rfl)⟩) hS0 ?_
      go_simp
      refine wpAnyH_take (i := 2) (v := ?_) rfl (by as_aux_lemma => kernel_rfl) (by as_aux_lemma => kernel_rfl) (by as_aux_lemma => kernel_rfl) (fun _ _ _ h => h) (Or.inl ⟨(by as_aux_lemma => kernel_rfl), by (intro wz hSz; have c1_0 := cell_of_row _ _ 0 _ _ _ hSz; have c1_1 := cell_of_row _ _ 1 _ _ _ hSz; have c1_2 := cell_of_row _ _ 2 _ _ _ hSz; have c1_3 := cell_of_row _ _ 3 _ _ _ hSz; have c1_4 := cell_of_row _ _ 4 _ _ _ hSz; simp at c1_0 c1_1 c1_2 c1_3 c1_4; go_simp; try with_reducible rfl)⟩) hS0 ?_
      go_simp
      refine wpAnyH_take (i := 4) (v := ?_) rfl (by as_aux_lemma => kernel_rfl) (by as_aux_lemma => kernel_rfl) (by as_aux_lemma => kernel_rfl) (fun _ _ _ h => h) (Or.inl ⟨(by as_aux_lemma => kernel_rfl), by (intro wz hSz; go_simp; try with_reducible rfl)⟩) hS0 ?_
      go_simp
      refine wpAnyH_take (i := 5) (v := ?_) rfl (by as_aux_lemma => kernel_rfl) (by as_aux_lemma => kernel_rfl) (by as_aux_lemma => kernel_rfl) (fun _ _ _ h => h) (Or.inl ⟨(by as_aux_lemma => kernel_rfl), by (intro wz hSz; have c1_0 := cell_of_row _ _ 0 _ _ _ hSz; have c1_1 := cell_of_row _ _ 1 _ _ _ hSz; have c1_2 := cell_of_row _ _ 2 _ _ _ hSz; have c1_3 := cell_of_row _ _ 3 _ _ _ hSz; have c1_4 := cell_of_row _ _ 4 _ _ _ hSz; simp at c1_0 c1_1 c1_2 c1_3 c1_4; go_simp; try with_reducible rfl)⟩) hS0 ?_
      go_simp
      refine wpAnyH_take (i := 6) (v := ?_) rfl (by as_aux_lemma => kernel_rfl) (by as_aux_lemma => kernel_rfl) (by as_aux_lemma => kernel_rfl) (fun _ _ _ h => h) (Or.inl ⟨(by as_aux_lemma => kernel_rfl), by (intro wz hSz; go_simp; try with_reducible rfl)⟩) hS0 ?_
      go_simp
      refine wpAnyH_ready (rs := [3]) (by as_aux_lemma => kernel_rfl) (by simp) ?_
      refine AllReadyH.cons rfl (fun K hK => ?_) AllReadyH.nil
      go_simp
      go_wp2_with (go_at_call 24; refine (dvec_any (LK ++ bytesOf (u64 (x0)) 1) (x1) (x2) (x3) _ _ (Re.own_bs HO41.out) (by first | omega | (simp only [List.length_append, numsOf_length, bytesOf_length, keysOf_length, List.length_cons, List.length_nil]; omega))).mono ?_; rintro e y42 ⟨⟨v42, rfl, ho⟩, hb42⟩; have HO42 := Lib.hid (show y42.ownsRow b0 5 1 v42 (LK ++ bytesOf (u64 (x0)) 1 ++ numsOf 5 [x1, x2, x3]).length (vals (LK ++ bytesOf (u64 (x0)) 1 ++ numsOf 5 [x1, x2, x3])) from own_mono ho (by omega)); clear ho; have hzs42 := hb42.size)
      have hr42_0 := (hb42.block _ (lt_heap hr41_0)).trans hr41_0
      have hr42_1 := (hb42.block _ (lt_heap hr41_1)).trans hr41_1
      have HU42 := Lib.hid (HU41.out.trans (hb42.mono HU41.out.size))
      refine hK.out _ _ ((hb42.block _ (lt_heap hS0)).trans hS0) (fun hS42c => ?_)
      clear hK K
      refine wpAnyH_ready (rs := [7]) (by as_aux_lemma => kernel_rfl) (by simp) ?_
      refine AllReadyH.cons rfl (fun K hK => ?_) AllReadyH.nil
      go_simp
      go_wp2_with (go_at_call 23; refine (num_any (LK ++ bytesOf (u64 (x0)) 1 ++ numsOf 5 [x1, x2, x3]) n1 5 ln1 (by omega) _ _ (Re.own_bs HO42.out) (by first | omega | (simp only [List.length_append, numsOf_length, bytesOf_length, keysOf_length, List.length_cons, List.length_nil]; omega))).mono ?_; rintro e y43 ⟨⟨v43, rfl, ho⟩, hb43⟩; have HO43 := Lib.hid (show y43.ownsRow b0 5 1 v43 (LK ++ bytesOf (u64 (x0)) 1 ++ numsOf 5 [x1, x2, x3] ++ bytesOf (u64 (x4)) 5).length (vals (LK ++ bytesOf (u64 (x0)) 1 ++ numsOf 5 [x1, x2, x3] ++ bytesOf (u64 (x4)) 5)) from by rw [← Nn1.out]; exact own_mono ho (by omega)); clear ho; have hzs43 := hb43.size)
      have hr43_0 := (hb43.block _ (lt_heap hr42_0)).trans hr42_0
      have hr43_1 := (hb43.block _ (lt_heap hr42_1)).trans hr42_1
      have HU43 := Lib.hid (HU42.out.trans (hb43.mono HU42.out.size))
      refine hK.out _ _ ((hb43.block _ (lt_heap hS42c)).trans hS42c) (fun hS43c => ?_)
      clear hK K
      refine wpAnyH_take (i := 8) (v := ?_) rfl (by as_aux_lemma => kernel_rfl) (by as_aux_lemma => kernel_rfl) (by as_aux_lemma => kernel_rfl) (fun _ _ _ h => h) (Or.inl ⟨(by as_aux_lemma => kernel_rfl), by (intro wz hSz; go_simp; try with_reducible rfl)⟩) hS43c ?_
      go_simp
      refine wpAnyH_done (by as_aux_lemma => kernel_rfl) ?_ _
      clear wn1 ln1 Nn1
      have HQ := Lib.hid (show y43.ownsRow b0 5 1 v43 (L0 ++ paintsOf P (k + 1)).length (vals (L0 ++ paintsOf P (k + 1))) by have h := HO43.out; rw [HLK.out] at h; rw [HKK.out]; simpa only [List.append_assoc, nums_cons, numsOf_nil, List.append_nil] using h)
      go_wp2_with fail
      go_roundw
      case rel => exact ⟨k + 1, by omega, by go_num, hr43_0, HQ, HU43, by omega⟩
      case measure => simp [intOf]; omega
    · have hkk : np = k := by omega
      subst hkk
      obtain ⟨L1, hL1⟩ : ∃ L, L = L0 ++ paintsOf P np := ⟨_, rfl⟩
      have hl1 : L1.length ≤ 802400 := by rw [hL1]; rw [List.length_append]; have : (paintsOf P np).length ≤ 200 * 4002 := (by rw [paintsOf_length]; omega); omega
      rw [← hL1] at HO38
      have HLL1 := Lib.hid hL1
      clear hL1
      have c0_13 := cell_of_row _ _ 13 _ _ _ hr38_0
      have c0_14 := cell_of_row _ _ 14 _ _ _ hr38_0
      have c0_15 := cell_of_row _ _ 15 _ _ _ hr38_0
      have c0_16 := cell_of_row _ _ 16 _ _ _ hr38_0
      simp at c0_13 c0_14 c0_15 c0_16
      go_upto_region 19 with fail
      clear c0_13 c0_14 c0_15 c0_16
      go_loopw [7, 10] (fun v i wr => ∃ k : Nat, k ≤ nt ∧ i = .int .i64 k ∧ wr.heap[w.heap.size]? = some (.cells #[.int .i64 a1, .int .i64 a2, .int .i64 a3, .int .i64 a4, .int .i64 a5, .int .i64 a6, .int .u64 (sd : Int), .int .i64 r1, .int .i64 r2, .int .i64 r3, .int .i64 e1, .int .i64 e2, .int .i64 e3, .slice pa np pc, .slice ta nt tc, .slice ja nj jc, .slice sa ns sc] 32 (0, 0)) ∧ Hid (wr.ownsRow b0 5 1 v (L1 ++ tracksOf way kn K k).length (vals (L1 ++ tracksOf way kn K k))) ∧ Hid (Below w.heap.size w wr) ∧ b0 ≤ wr.heap.size) (fun _ i _ => nt - (intOf i).toNat)
      case atStart => exact ⟨0, by omega, rfl, hr38_0, Lib.hid (by rw [tracksOf, List.append_nil]; exact HO38.out), HU38, by omega⟩
      case round =>
        clear hr38_0 HO38 HU38
        obtain ⟨k, hk, rfl, hr58_0, HO58, HU58, hbr⟩ := hrel
        obtain ⟨y58, rfl⟩ : ∃ y : World, y = wr := ⟨_, rfl⟩
        have hz58 := HU58.out.size
        have hl58_0 := lt_heap hr58_0
        by_cases hlt : k < nt
        · have hlt' : (k : Int) < nt := by omega
          have hlk2 := (show (tracksOf way kn K k).length ≤ 200 * 4002 from (by have h0 := HKN.out; have h1 := tracksOf_length way kn K nt h0 _ (show _ ≤ nt by first | exact hk | exact Nat.le_refl _); refine Nat.le_trans h1 ?_; exact Nat.mul_le_mul_right 4002 (by omega)))
          have hlL2 : (L1 ++ tracksOf way kn K k).length ≤ 1602800 := by rw [List.length_append]; omega
          obtain ⟨LK, hLK⟩ : ∃ L, L = L1 ++ tracksOf way kn K k := ⟨_, rfl⟩
          rw [← hLK] at HO58 hlL2
          have HLK := Lib.hid hLK
          clear hLK
          obtain ⟨eb, eoff, ka, kc, hpx, hka⟩ := HTT.out.at hlt
          obtain ⟨k0, k1, -⟩ := hka _ HU58.out
          have HKA := Lib.hid hka
          have hknk := HKN.out k hlt
          clear hka
          obtain ⟨x0, hx0⟩ : ∃ v, v = way k := ⟨_, rfl⟩
          obtain ⟨x1, hx1⟩ : ∃ v, v = kn k := ⟨_, rfl⟩
          obtain ⟨KK, hKK⟩ : ∃ f, f = K k := ⟨_, rfl⟩
          rw [← hx0] at k0
          rw [← hx1] at k1 hknk
          have HKA := Lib.hid (show ∀ W, Below w.heap.size w W → KeysAt W ka x1 KK from fun W h => by rw [hx1, hKK]; exact (HKA.out W h).2.2)
          have HKK := Lib.hid (show tracksOf way kn K (k + 1) = tracksOf way kn K k ++ (numsOf 1 [x0, (x1 : Int)] ++ keysOf KK x1) by simp only [hx0, hx1, hKK]; rfl)
          clear hx0 hx1 hKK
          have c0_0 := cell_of_row _ _ 0 _ _ _ hr58_0
          have c0_1 := cell_of_row _ _ 1 _ _ _ hr58_0
          have c0_2 := cell_of_row _ _ 2 _ _ _ hr58_0
          have c0_3 := cell_of_row _ _ 3 _ _ _ hr58_0
          have c0_4 := cell_of_row _ _ 4 _ _ _ hr58_0
          have c0_5 := cell_of_row _ _ 5 _ _ _ hr58_0
          have c0_6 := cell_of_row _ _ 6 _ _ _ hr58_0
          have c0_7 := cell_of_row _ _ 7 _ _ _ hr58_0
          have c0_8 := cell_of_row _ _ 8 _ _ _ hr58_0
          have c0_9 := cell_of_row _ _ 9 _ _ _ hr58_0
          have c0_10 := cell_of_row _ _ 10 _ _ _ hr58_0
          have c0_11 := cell_of_row _ _ 11 _ _ _ hr58_0
          have c0_12 := cell_of_row _ _ 12 _ _ _ hr58_0
          have c0_13 := cell_of_row _ _ 13 _ _ _ hr58_0
          have c0_14 := cell_of_row _ _ 14 _ _ _ hr58_0
          have c0_15 := cell_of_row _ _ 15 _ _ _ hr58_0
          have c0_16 := cell_of_row _ _ 16 _ _ _ hr58_0
          simp at c0_0 c0_1 c0_2 c0_3 c0_4 c0_5 c0_6 c0_7 c0_8 c0_9 c0_10 c0_11 c0_12 c0_13 c0_14 c0_15 c0_16
          go_upto_region 22 with fail
          clear c0_0 c0_1 c0_2 c0_3 c0_4 c0_5 c0_6 c0_7 c0_8 c0_9 c0_10 c0_11 c0_12 c0_13 c0_14 c0_15 c0_16
          clear hpx k0 k1
          have HOX := Lib.hid (fun q hq => (HO58.out.lt q hq).2)
          have hb59 := Ve.below_n1 y58 (.cells #[.int .i64 x0, .slice ka x1 kc] 65)
          have hN := heap_alloc_last y58 (.cells #[.int .i64 x0, .slice ka x1 kc] 65)
          obtain ⟨y59, hy59⟩ : ∃ y, y58.alloc (.cells #[.int .i64 x0, .slice ka x1 kc] 65) = y := ⟨_, rfl⟩
          have hs59 : y59.heap.size = y58.heap.size + 1 := by rw [← hy59]; simp
          rw [hy59] at hb59 hN ⊢
          clear hy59
          have hl59_0 := lt_heap hr58_0
          have HO59 := Lib.hid (own_on HO58.out hb59)
          have hzs59 := (hb59).size
          have hr59_0 := (hb59.block _ (lt_heap hr58_0)).trans hr58_0
          have HU59 := Lib.hid (HU58.out.trans (hb59.mono HU58.out.size))
          clear hr58_0 HU58
          clear HO58
          have hr59_1 := hN
          clear hN
          replace hs59 : y58.heap.size < y59.heap.size := by omega
          have hl59_0 := lt_heap hr59_0
          have hl59_1 := lt_heap hr59_1
          obtain ⟨c1, hc1⟩ : ∃ x : UInt8, x = byteAt (u64 (x0)) 0 := ⟨_, rfl⟩
          have wc1 : (x0 : Int) % 256 = (c1.toNat : Int) := one_is _ _ hc1
          have Nc1 := Lib.hid hc1
          clear hc1
          obtain ⟨c2x, hc2x⟩ : ∃ x : UInt8, x = byteAt (u64 ((x1 : Int))) 0 := ⟨_, rfl⟩
          have wc2x : ((x1 : Int) : Int) % 256 = (c2x.toNat : Int) := one_is _ _ hc2x
          have Nc2x := Lib.hid hc2x
          clear hc2x
          have Dc2x := Lib.hid (show ((x1 : Int) : Int) = (c2x.toNat : Int) by omega)
          clear wc2x
          obtain ⟨i0, hi, hz0, hz1, hz2⟩ := info_parts infoByte
          have HI := Lib.hid (HO59.out.alloc (.cells #[.int .u8 (c1.toNat : Int), .int .u8 ((x1 : Int))] 5))
          have HVV := Lib.hid (show ∀ j u, (vals [c1, c2x])[j]? = some u → (y59.alloc (.cells #[.int .u8 (c1.toNat : Int), .int .u8 ((x1 : Int))] 5)).cell? ((⟨y59.heap.size, 0, none⟩ : Addr).add j) = some u by rw [Dc2x.out]; exact lit_cells [c1, c2x] y59 5)
          have hlen : (LK).length + 2 ≤ 140737488355328 := by first | omega | (simp only [List.length_append, numsOf_length, bytesOf_length, keysOf_length, List.length_cons, List.length_nil]; omega)
          have c0_0 := cell_of_row _ _ 0 _ _ _ hr59_0
          have c1_0 := cell_of_row _ _ 0 _ _ _ hr59_1
          have c1_1 := cell_of_row _ _ 1 _ _ _ hr59_1
          simp at c0_0 c1_0 c1_1
          go_wp2_with (first | (at_builtin; refine wpList_append_own _ rfl _ _ 35 rfl b0 5 i0 (.int .u8 0) 1 1 Tryz.underlying35 hi hz0 hz1 hz2 rfl (by decide) _ _ _ rfl HI.out ⟨y59.heap.size, 0, none⟩ 2 2 (vals [c1, c2x]) rfl rfl HVV.out (vals_one _) ?d3 ?d4 ?d5 ?_))
          clear c0_0 c1_0 c1_1
          case d3 => unfold maxLen; omega
          case d4 => omega
          case d5 => simp; omega
          intro v60 y60 hown2 hgrow2 _
          have hzm := HU59.out.size
          have hbx := Ve.below_n1 y59 (.cells #[.int .u8 (c1.toNat : Int), .int .u8 ((x1 : Int))] 5)
          have hzs60 := Nat.le_trans hbx.size hgrow2.size
          have hU60 := (HU59.out.trans (hbx.mono hzm)).grown hgrow2 (by have := hbx.size; omega) (fun q hq => by have := (HO59.out.lt q hq).1; omega)
          have hr60_0 := (hgrow2.block _ (Nat.lt_of_lt_of_le (lt_heap hr59_0) hbx.size) (fun e => by have hl1 := HO59.out.lt _ e.symm; have hl2 := lt_heap hr59_0; first | omega | (have hl3 := HOX.out _ e.symm; omega))).trans ((hbx.block _ (lt_heap hr59_0)).trans hr59_0)
          have hr60_1 := (hgrow2.block _ (Nat.lt_of_lt_of_le (lt_heap hr59_1) hbx.size) (fun e => by have hl1 := HO59.out.lt _ e.symm; have hl2 := lt_heap hr59_1; first | omega | (have hl3 := HOX.out _ e.symm; omega))).trans ((hbx.block _ (lt_heap hr59_1)).trans hr59_1)
          have HU60 := Lib.hid hU60
          have HO60 := Lib.hid (show y60.ownsRow b0 5 1 v60 (LK ++ numsOf 1 [x0, (x1 : Int)]).length (vals (LK ++ numsOf 1 [x0, (x1 : Int)])) by rw [show numsOf 1 [x0, (x1 : Int)] = [c1, c2x] by rw [Nc1.out, Nc2x.out]; simp only [nums1, numsOf_nil], vals_append, List.length_append]; exact hown2)
          clear hown2 hgrow2 hbx hU60 HI HVV hlen hi hz0 hz1 hz2 HO59 wc1 Nc1 Dc2x Nc2x hr59_0 hr59_1 HU59
          have hz60 := HU60.out.size
          have c1_0 := cell_of_row _ _ 0 _ _ _ hr60_1
          have c1_1 := cell_of_row _ _ 1 _ _ _ hr60_1
          simp at c1_0 c1_1
          go_upto_region 24 with fail
          clear c1_0 c1_1
          go_loopw [7, 12] (fun v i wr => ∃ z : Nat, z ≤ x1 ∧ i = .int .i64 z ∧ wr.heap[w.heap.size]? = some (.cells #[.int .i64 a1, .int .i64 a2, .int .i64 a3, .int .i64 a4, .int .i64 a5, .int .i64 a6, .int .u64 (sd : Int), .int .i64 r1, .int .i64 r2, .int .i64 r3, .int .i64 e1, .int .i64 e2, .int .i64 e3, .slice pa np pc, .slice ta nt tc, .slice ja nj jc, .slice sa ns sc] 32 (0, 0)) ∧ wr.heap[y58.heap.size]? = some (.cells #[.int .i64 x0, .slice ka x1 kc] 65 (0, 0)) ∧ Hid (wr.ownsRow b0 5 1 v (LK ++ numsOf 1 [x0, (x1 : Int)] ++ keysOf KK z).length (vals (LK ++ numsOf 1 [x0, (x1 : Int)] ++ keysOf KK z))) ∧ Hid (Below w.heap.size w wr) ∧ b0 ≤ wr.heap.size) (fun _ i _ => x1 - (intOf i).toNat)
          case atStart => exact ⟨0, by omega, rfl, hr60_0, hr60_1, Lib.hid (by rw [keysOf, List.append_nil]; exact HO60.out), HU60, by omega⟩
          case round =>
            clear hr60_0 hr60_1 HO60 HU60
            obtain ⟨z, hzz, rfl, hr80_0, hr80_1, HO80, HU80, hbr2⟩ := hrel
            obtain ⟨y80, rfl⟩ : ∃ y : World, y = wr := ⟨_, rfl⟩
            have hz80 := HU80.out.size
            have hl80_0 := lt_heap hr80_0
            have hl80_1 := lt_heap hr80_1
            by_cases hlz : z < x1
            · have hlz' : (z : Int) < x1 := by omega
              obtain ⟨kb, koff, hkx, hkb, q0, q1, q2, q3⟩ := keys4 (HKA.out _ HU80.out) hlz
              obtain ⟨zt, hzt⟩ : ∃ v, v = KK (z * 4) := ⟨_, rfl⟩
              rw [← hzt] at q0
              obtain ⟨zx, hzx⟩ : ∃ v, v = KK (z * 4 + 1) := ⟨_, rfl⟩
              rw [← hzx] at q1
              obtain ⟨zy, hzy⟩ : ∃ v, v = KK (z * 4 + 2) := ⟨_, rfl⟩
              rw [← hzy] at q2
              obtain ⟨zz, hzz⟩ : ∃ v, v = KK (z * 4 + 3) := ⟨_, rfl⟩
              rw [← hzz] at q3
              have HZK := Lib.hid (show keysOf KK (z + 1) = keysOf KK z ++ (numsOf 5 [zt] ++ numsOf 5 [zx, zy, zz]) by rw [hzt, hzx, hzy, hzz]; rfl)
              clear hzt hzx hzy hzz
              have hlz3 := keysOf_length KK z
              obtain ⟨LZ, hLZ⟩ : ∃ L, L = LK ++ numsOf 1 [x0, (x1 : Int)] ++ keysOf KK z := ⟨_, rfl⟩
              have hlLZ : LZ.length ≤ 10000000 := by rw [hLZ]; simp only [List.length_append, numsOf_length, keysOf_length, List.length_cons, List.length_nil]; omega
              rw [← hLZ] at HO80
              have HLZ := Lib.hid hLZ
              clear hLZ
              rw [hkx] at hr80_1
              have HKX := Lib.hid hkx
              clear hkx
              obtain ⟨n0, hn0⟩ : ∃ n : Nat, n = u64 (zt) := ⟨_, rfl⟩
              have wn0 : IntKind.u64.wrap (zt) = (n0 : Int) := by rw [hn0, u64_wrap]
              have ln0 : n0 < 18446744073709551616 := by rw [hn0]; exact u64_lt _
              have Nn0 := Lib.hid hn0
              clear hn0
              have c1_0 := cell_of_row _ _ 0 _ _ _ hr80_1
              have c1_1 := cell_of_row _ _ 1 _ _ _ hr80_1
              simp at c1_0 c1_1
              go_upto_region 26 with fail
              clear c1_0 c1_1
              refine wp_region_held_drew (S := fun y => y.heap[y58.heap.size]? = some (.cells #[.int .i64 x0, .slice (some ⟨kb, koff, none⟩) x1 kc] 65 (0, 0)) ∧ y.cell? ⟨kb, koff + z * 4, none⟩ = some (.int .i64 zt) ∧ y.cell? ⟨kb, koff + z * 4 + 1, none⟩ = some (.int .i64 zx) ∧ y.cell? ⟨kb, koff + z * 4 + 2, none⟩ = some (.int .i64 zy) ∧ y.cell? ⟨kb, koff + z * 4 + 3, none⟩ = some (.int .i64 zz)) (by as_aux_lemma => kernel_rfl) (⟨hr80_1, q0, q1, q2, q3⟩) (fun hS0 => ?_)
              obtain ⟨y81, hy81⟩ : ∃ y, y80.drew = y := ⟨_, rfl⟩
              have HU81 := Lib.hid (show Below w.heap.size w y81 by rw [← hy81]; exact HU80.out.drew)
              have hr81_0 : y81.heap[w.heap.size]? = some (.cells #[.int .i64 a1, .int .i64 a2, .int .i64 a3, .int .i64 a4, .int .i64 a5, .int .i64 a6, .int .u64 (sd : Int), .int .i64 r1, .int .i64 r2, .int .i64 r3, .int .i64 e1, .int .i64 e2, .int .i64 e3, .slice pa np pc, .slice ta nt tc, .slice ja nj jc, .slice sa ns sc] 32 (0, 0)) := by rw [← hy81]; exact hr80_0
              have hr81_1 : y81.heap[y58.heap.size]? = some (.cells #[.int .i64 x0, .slice (some ⟨kb, koff, none⟩) x1 kc] 65 (0, 0)) := by rw [← hy81]; exact hr80_1
              have hzd81 : y80.heap.size ≤ y81.heap.size := by rw [← hy81]; exact (Below.refl y80.heap.size y80).drew.size
              have HO81 := Lib.hid (own_on (w' := y81) HO80.out (by rw [← hy81]; exact (Below.refl _ _).drew))
              rw [hy81] at hS0 ⊢
              clear hy81
              refine wpAnyH_take (i := 0) (v := ?_) rfl (by as_aux_lemma => kernel_rfl) (by as_aux_lemma => kernel_rfl) (by as_aux_lemma => kernel_rfl) (fun _ _ _ h => h) (Or.inl ⟨(by as_aux_lemma => kernel_rfl), by (intro wz hSz; go_simp; try with_reducible rfl)⟩) hS0 ?_
              go_simp
              refine wpAnyH_take (i := 1) (v := ?_) rfl (by as_aux_lemma => kernel_rfl) (by as_aux_lemma => kernel_rfl) (by as_aux_lemma => kernel_rfl) (fun _ _ _ h => h) (Or.inl ⟨(by as_aux_lemma => kernel_rfl), by (intro wz hSz; go_simp; try with_reducible rfl)⟩) hS0 ?_
              go_simp
              refine wpAnyH_take (i := 2) (v := ?_) rfl (by as_aux_lemma => kernel_rfl) (by as_aux_lemma => kernel_rfl) (by as_aux_lemma => kernel_rfl) (fun _ _ _ h => h) (Or.inl ⟨(by as_aux_lemma => kernel_rfl), by (intro wz hSz; have c1_0 := cell_of_row _ _ 0 _ _ _ hSz.1; have c1_1 := cell_of_row _ _ 1 _ _ _ hSz.1; simp at c1_0 c1_1; have q0z := hSz.2.1; have q1z := hSz.2.2.1; have q2z := hSz.2.2.2.1; have q3z := hSz.2.2.2.2; go_simp; try with_reducible rfl)⟩) hS0 ?_
              go_simp
              refine wpAnyH_take (i := 3) (v := ?_) rfl (by as_aux_lemma => kernel_rfl) (by as_aux_lemma => kernel_rfl) (by as_aux_lemma => kernel_rfl) (fun _ _ _ h => h) (Or.inl ⟨(by as_aux_lemma => kernel_rfl), by (intro wz hSz; go_simp; try with_reducible rfl)⟩) hS0 ?_
              go_simp
              refine wpAnyH_take (i := 4) (v := ?_) rfl (by as_aux_lemma => kernel_rfl) (by as_aux_lemma => kernel_rfl) (by as_aux_lemma => kernel_rfl) (fun _ _ _ h => h) (Or.inl ⟨(by as_aux_lemma => kernel_rfl), by (intro wz hSz; go_simp; try with_reducible rfl)⟩) hS0 ?_
              go_simp
              refine wpAnyH_take (i := 5) (v := ?_) rfl (by as_aux_lemma => kernel_rfl) (by as_aux_lemma => kernel_rfl) (by as_aux_lemma => kernel_rfl) (fun _ _ _ h => h) (Or.inl ⟨(by as_aux_lemma => kernel_rfl), by (intro wz hSz; go_simp; try with_reducible rfl)⟩) hS0 ?_
              go_simp
              refine wpAnyH_take (i := 6) (v := ?_) rfl (by as_aux_lemma => kernel_rfl) (by as_aux_lemma => kernel_rfl) (by as_aux_lemma => kernel_rfl) (fun _ _ _ h => h) (Or.inl ⟨(by as_aux_lemma => kernel_rfl), by (intro wz hSz; have c1_0 := cell_of_row _ _ 0 _ _ _ hSz.1; have c1_1 := cell_of_row _ _ 1 _ _ _ hSz.1; simp at c1_0 c1_1; have q0z := hSz.2.1; have q1z := hSz.2.2.1; have q2z := hSz.2.2.2.1; have q3z := hSz.2.2.2.2; go_simp; try with_reducible rfl)⟩) hS0 ?_
              go_simp
              refine wpAnyH_take (i := 7) (v := ?_) rfl (by as_aux_lemma => kernel_rfl) (by as_aux_lemma => kernel_rfl) (by as_aux_lemma => kernel_rfl) (fun _ _ _ h => h) (Or.inl ⟨(by as_aux_lemma => kernel_rfl), by (intro wz hSz; go_simp; try with_reducible rfl)⟩) hS0 ?_
              go_simp
              refine wpAnyH_take (i := 9) (v := ?_) rfl (by as_aux_lemma => kernel_rfl) (by as_aux_lemma => kernel_rfl) (by as_aux_lemma => kernel_rfl) (fun _ _ _ h => h) (Or.inl ⟨(by as_aux_lemma => kernel_rfl), by (intro wz hSz; go_simp; try with_reducible rfl)⟩) hS0 ?_
              go_simp
              refine wpAnyH_take (i := 10) (v := ?_) rfl (by as_aux_lemma => kernel_rfl) (by as_aux_lemma => kernel_rfl) (by as_aux_lemma => kernel_rfl) (fun _ _ _ h => h) (Or.inl ⟨(by as_aux_lemma => kernel_rfl), by (intro wz hSz; have c1_0 := cell_of_row _ _ 0 _ _ _ hSz.1; have c1_1 := cell_of_row _ _ 1 _ _ _ hSz.1; simp at c1_0 c1_1; have q0z := hSz.2.1; have q1z := hSz.2.2.1; have q2z := hSz.2.2.2.1; have q3z := hSz.2.2.2.2; go_simp; try with_reducible rfl)⟩) hS0 ?_
              go_simp
              refine wpAnyH_take (i := 11) (v := ?_) rfl (by as_aux_lemma => kernel_rfl) (by as_aux_lemma => kernel_rfl) (by as_aux_lemma => kernel_rfl) (fun _ _ _ h => h) (Or.inl ⟨(by as_aux_lemma => kernel_rfl), by (intro wz hSz; go_simp; try with_reducible rfl)⟩) hS0 ?_
              go_simp
              refine wpAnyH_take (i := 12) (v := ?_) rfl (by as_aux_lemma => kernel_rfl) (by as_aux_lemma => kernel_rfl) (by as_aux_lemma => kernel_rfl) (fun _ _ _ h => h) (Or.inl ⟨(by as_aux_lemma => kernel_rfl), by (intro wz hSz; go_simp; try with_reducible rfl)⟩) hS0 ?_
              go_simp
              refine wpAnyH_take (i := 13) (v := ?_) rfl (by as_aux_lemma => kernel_rfl) (by as_aux_lemma => kernel_rfl) (by as_aux_lemma => kernel_rfl) (fun _ _ _ h => h) (Or.inl ⟨(by as_aux_lemma => kernel_rfl), by (intro wz hSz; go_simp; try with_reducible rfl)⟩) hS0 ?_
              go_simp
              refine wpAnyH_take (i := 14) (v := ?_) rfl (by as_aux_lemma => kernel_rfl) (by as_aux_lemma => kernel_rfl) (by as_aux_lemma => kernel_rfl) (fun _ _ _ h => h) (Or.inl ⟨(by as_aux_lemma => kernel_rfl), by (intro wz hSz; have c1_0 := cell_of_row _ _ 0 _ _ _ hSz.1; have c1_1 := cell_of_row _ _ 1 _ _ _ hSz.1; simp at c1_0 c1_1; have q0z := hSz.2.1; have q1z := hSz.2.2.1; have q2z := hSz.2.2.2.1; have q3z := hSz.2.2.2.2; go_simp; try with_reducible rfl)⟩) hS0 ?_
              go_simp
              refine wpAnyH_ready (rs := [8]) (by as_aux_lemma => kernel_rfl) (by simp) ?_
              refine AllReadyH.cons rfl (fun K hK => ?_) AllReadyH.nil
              go_simp
              go_wp2_with (go_at_call 23; refine (num_any (LZ) n0 5 ln0 (by omega) _ _ (Re.own_bs HO81.out) (by first | omega | (simp only [List.length_append, numsOf_length, bytesOf_length, keysOf_length, List.length_cons, List.length_nil]; omega))).mono ?_; rintro e y82 ⟨⟨v82, rfl, ho⟩, hb82⟩; have HO82 := Lib.hid (show y82.ownsRow b0 5 1 v82 (LZ ++ bytesOf (u64 (zt)) 5).length (vals (LZ ++ bytesOf (u64 (zt)) 5)) from by rw [← Nn0.out]; exact own_mono ho (by omega)); clear ho; have hzs82 := hb82.size)
              have hr82_0 := (hb82.block _ (lt_heap hr81_0)).trans hr81_0
              have hr82_1 := (hb82.block _ (lt_heap hr81_1)).trans hr81_1
              have HU82 := Lib.hid (HU81.out.trans (hb82.mono HU81.out.size))
              refine hK.out _ _ (⟨(hb82.block _ (lt_heap hS0.1)).trans hS0.1, (hb82.cell (p := ⟨kb, koff + z * 4, none⟩) (by show kb < _; omega)).trans hS0.2.1, (hb82.cell (p := ⟨kb, koff + z * 4 + 1, none⟩) (by show kb < _; omega)).trans hS0.2.2.1, (hb82.cell (p := ⟨kb, koff + z * 4 + 2, none⟩) (by show kb < _; omega)).trans hS0.2.2.2.1, (hb82.cell (p := ⟨kb, koff + z * 4 + 3, none⟩) (by show kb < _; omega)).trans hS0.2.2.2.2⟩) (fun hS82c => ?_)
              clear hK K
              refine wpAnyH_ready (rs := [15]) (by as_aux_lemma => kernel_rfl) (by simp) ?_
              refine AllReadyH.cons rfl (fun K hK => ?_) AllReadyH.nil
              go_simp
              go_wp2_with (go_at_call 24; refine (dvec_any (LZ ++ bytesOf (u64 (zt)) 5) (zx) (zy) (zz) _ _ (Re.own_bs HO82.out) (by first | omega | (simp only [List.length_append, numsOf_length, bytesOf_length, keysOf_length, List.length_cons, List.length_nil]; omega))).mono ?_; rintro e y83 ⟨⟨v83, rfl, ho⟩, hb83⟩; have HO83 := Lib.hid (show y83.ownsRow b0 5 1 v83 (LZ ++ bytesOf (u64 (zt)) 5 ++ numsOf 5 [zx, zy, zz]).length (vals (LZ ++ bytesOf (u64 (zt)) 5 ++ numsOf 5 [zx, zy, zz])) from own_mono ho (by omega)); clear ho; have hzs83 := hb83.size)
              have hr83_0 := (hb83.block _ (lt_heap hr82_0)).trans hr82_0
              have hr83_1 := (hb83.block _ (lt_heap hr82_1)).trans hr82_1
              have HU83 := Lib.hid (HU82.out.trans (hb83.mono HU82.out.size))
              refine hK.out _ _ (⟨(hb83.block _ (lt_heap hS82c.1)).trans hS82c.1, (hb83.cell (p := ⟨kb, koff + z * 4, none⟩) (by show kb < _; omega)).trans hS82c.2.1, (hb83.cell (p := ⟨kb, koff + z * 4 + 1, none⟩) (by show kb < _; omega)).trans hS82c.2.2.1, (hb83.cell (p := ⟨kb, koff + z * 4 + 2, none⟩) (by show kb < _; omega)).trans hS82c.2.2.2.1, (hb83.cell (p := ⟨kb, koff + z * 4 + 3, none⟩) (by show kb < _; omega)).trans hS82c.2.2.2.2⟩) (fun hS83c => ?_)
              clear hK K
              refine wpAnyH_take (i := 16) (v := ?_) rfl (by as_aux_lemma => kernel_rfl) (by as_aux_lemma => kernel_rfl) (by as_aux_lemma => kernel_rfl) (fun _ _ _ h => h) (Or.inl ⟨(by as_aux_lemma => kernel_rfl), by (intro wz hSz; go_simp; try with_reducible rfl)⟩) hS83c ?_
              go_simp
              refine wpAnyH_done (by as_aux_lemma => kernel_rfl) ?_ _
              clear wn0 ln0 Nn0
              have HQ := Lib.hid (show y83.ownsRow b0 5 1 v83 (LK ++ numsOf 1 [x0, (x1 : Int)] ++ keysOf KK (z + 1)).length (vals (LK ++ numsOf 1 [x0, (x1 : Int)] ++ keysOf KK (z + 1))) by have h := HO83.out; rw [HLZ.out] at h; rw [HZK.out]; simpa only [List.append_assoc, nums_cons, numsOf_nil, List.append_nil] using h)
              go_wp2_with fail
              go_roundw
              case rel => exact ⟨z + 1, by omega, by go_num, hr83_0, by rw [HKX.out]; exact hr83_1, HQ, HU83, by omega⟩
              case measure => simp [intOf]; omega
            · have hkk : x1 = z := by omega
              subst hkk
              have c1_0 := cell_of_row _ _ 0 _ _ _ hr80_1
              have c1_1 := cell_of_row _ _ 1 _ _ _ hr80_1
              simp at c1_0 c1_1
              have HQ := Lib.hid (show y80.ownsRow b0 5 1 u7 (L1 ++ tracksOf way kn K (k + 1)).length (vals (L1 ++ tracksOf way kn K (k + 1))) by have h := HO80.out; rw [HLK.out] at h; rw [HKK.out]; simpa only [List.append_assoc, nums_cons, numsOf_nil, List.append_nil] using h)
              go_wp2_with fail
              go_roundw
              case rel => exact ⟨k + 1, by omega, by go_num, hr80_0, HQ, HU80, by omega⟩
              case measure => simp [intOf]; omega
        · have hkk : nt = k := by omega
          subst hkk
          obtain ⟨L2, hL2⟩ : ∃ L, L = L1 ++ tracksOf way kn K nt := ⟨_, rfl⟩
          have hl2 : L2.length ≤ 1602800 := by rw [hL2]; rw [List.length_append]; have : (tracksOf way kn K nt).length ≤ 200 * 4002 := (by have h0 := HKN.out; have h1 := tracksOf_length way kn K nt h0 _ (show _ ≤ nt by first | exact hk | exact Nat.le_refl _); refine Nat.le_trans h1 ?_; exact Nat.mul_le_mul_right 4002 (by omega)); omega
          rw [← hL2] at HO58
          have HLL2 := Lib.hid hL2
          clear hL2
          have c0_13 := cell_of_row _ _ 13 _ _ _ hr58_0
          have c0_14 := cell_of_row _ _ 14 _ _ _ hr58_0
          have c0_15 := cell_of_row _ _ 15 _ _ _ hr58_0
          have c0_16 := cell_of_row _ _ 16 _ _ _ hr58_0
          simp at c0_13 c0_14 c0_15 c0_16
          go_upto_region 28 with fail
          clear c0_13 c0_14 c0_15 c0_16
          go_loopw [7, 13] (fun v i wr => ∃ k : Nat, k ≤ nj ∧ i = .int .i64 k ∧ wr.heap[w.heap.size]? = some (.cells #[.int .i64 a1, .int .i64 a2, .int .i64 a3, .int .i64 a4, .int .i64 a5, .int .i64 a6, .int .u64 (sd : Int), .int .i64 r1, .int .i64 r2, .int .i64 r3, .int .i64 e1, .int .i64 e2, .int .i64 e3, .slice pa np pc, .slice ta nt tc, .slice ja nj jc, .slice sa ns sc] 32 (0, 0)) ∧ Hid (wr.ownsRow b0 5 1 v (L2 ++ jointsOf J k).length (vals (L2 ++ jointsOf J k))) ∧ Hid (Below w.heap.size w wr) ∧ b0 ≤ wr.heap.size) (fun _ i _ => nj - (intOf i).toNat)
          case atStart => exact ⟨0, by omega, rfl, hr58_0, Lib.hid (by rw [jointsOf, List.append_nil]; exact HO58.out), HU58, by omega⟩
          case round =>
            clear hr58_0 HO58 HU58
            obtain ⟨k, hk, rfl, hr78_0, HO78, HU78, hbr⟩ := hrel
            obtain ⟨y78, rfl⟩ : ∃ y : World, y = wr := ⟨_, rfl⟩
            have hz78 := HU78.out.size
            have hl78_0 := lt_heap hr78_0
            by_cases hlt : k < nj
            · have hlt' : (k : Int) < nj := by omega
              have hlk3 := (show (jointsOf J k).length ≤ 200 * 4002 from (by rw [jointsOf_length]; omega))
              have hlL3 : (L2 ++ jointsOf J k).length ≤ 2403200 := by rw [List.length_append]; omega
              obtain ⟨LK, hLK⟩ : ∃ L, L = L2 ++ jointsOf J k := ⟨_, rfl⟩
              rw [← hLK] at HO78 hlL3
              have HLK := Lib.hid hLK
              clear hLK
              obtain ⟨eb, eoff, hpx, heb, k0, k1, k2, k3⟩ := nums4 (HJJ.out _ HU78.out) hlt
              obtain ⟨x0, hx0⟩ : ∃ v, v = J (k * 4) := ⟨_, rfl⟩
              rw [← hx0] at k0
              obtain ⟨x1, hx1⟩ : ∃ v, v = J (k * 4 + 1) := ⟨_, rfl⟩
              rw [← hx1] at k1
              obtain ⟨x2, hx2⟩ : ∃ v, v = J (k * 4 + 2) := ⟨_, rfl⟩
              rw [← hx2] at k2
              obtain ⟨x3, hx3⟩ : ∃ v, v = J (k * 4 + 3) := ⟨_, rfl⟩
              rw [← hx3] at k3
              have HKK := Lib.hid (show jointsOf J (k + 1) = jointsOf J k ++ (numsOf 2 [x0, x1, x2] ++ numsOf 5 [x3]) by simp only [hx0, hx1, hx2, hx3]; rfl)
              clear hx0 hx1 hx2 hx3
              have c0_0 := cell_of_row _ _ 0 _ _ _ hr78_0
              have c0_1 := cell_of_row _ _ 1 _ _ _ hr78_0
              have c0_2 := cell_of_row _ _ 2 _ _ _ hr78_0
              have c0_3 := cell_of_row _ _ 3 _ _ _ hr78_0
              have c0_4 := cell_of_row _ _ 4 _ _ _ hr78_0
              have c0_5 := cell_of_row _ _ 5 _ _ _ hr78_0
              have c0_6 := cell_of_row _ _ 6 _ _ _ hr78_0
              have c0_7 := cell_of_row _ _ 7 _ _ _ hr78_0
              have c0_8 := cell_of_row _ _ 8 _ _ _ hr78_0
              have c0_9 := cell_of_row _ _ 9 _ _ _ hr78_0
              have c0_10 := cell_of_row _ _ 10 _ _ _ hr78_0
              have c0_11 := cell_of_row _ _ 11 _ _ _ hr78_0
              have c0_12 := cell_of_row _ _ 12 _ _ _ hr78_0
              have c0_13 := cell_of_row _ _ 13 _ _ _ hr78_0
              have c0_14 := cell_of_row _ _ 14 _ _ _ hr78_0
              have c0_15 := cell_of_row _ _ 15 _ _ _ hr78_0
              have c0_16 := cell_of_row _ _ 16 _ _ _ hr78_0
              simp at c0_0 c0_1 c0_2 c0_3 c0_4 c0_5 c0_6 c0_7 c0_8 c0_9 c0_10 c0_11 c0_12 c0_13 c0_14 c0_15 c0_16
              go_upto_region 31 with fail
              clear c0_0 c0_1 c0_2 c0_3 c0_4 c0_5 c0_6 c0_7 c0_8 c0_9 c0_10 c0_11 c0_12 c0_13 c0_14 c0_15 c0_16
              clear hpx k0 k1 k2 k3
              have HOX := Lib.hid (fun q hq => (HO78.out.lt q hq).2)
              have hb79 := Ve.below_n1 y78 (.cells #[.int .i64 x0, .int .i64 x1, .int .i64 x2, .int .i64 x3] 84)
              have hN := heap_alloc_last y78 (.cells #[.int .i64 x0, .int .i64 x1, .int .i64 x2, .int .i64 x3] 84)
              obtain ⟨y79, hy79⟩ : ∃ y, y78.alloc (.cells #[.int .i64 x0, .int .i64 x1, .int .i64 x2, .int .i64 x3] 84) = y := ⟨_, rfl⟩
              have hs79 : y79.heap.size = y78.heap.size + 1 := by rw [← hy79]; simp
              rw [hy79] at hb79 hN ⊢
              clear hy79
              have hl79_0 := lt_heap hr78_0
              have HO79 := Lib.hid (own_on HO78.out hb79)
              have hzs79 := (hb79).size
              have hr79_0 := (hb79.block _ (lt_heap hr78_0)).trans hr78_0
              have HU79 := Lib.hid (HU78.out.trans (hb79.mono HU78.out.size))
              clear hr78_0 HU78
              clear HO78
              have hr79_1 := hN
              clear hN
              replace hs79 : y78.heap.size < y79.heap.size := by omega
              obtain ⟨n0, hn0⟩ : ∃ n : Nat, n = u64 (x0) := ⟨_, rfl⟩
              have wn0 : IntKind.u64.wrap (x0) = (n0 : Int) := by rw [hn0, u64_wrap]
              have ln0 : n0 < 18446744073709551616 := by rw [hn0]; exact u64_lt _
              have Nn0 := Lib.hid hn0
              clear hn0
              obtain ⟨n1, hn1⟩ : ∃ n : Nat, n = u64 (x1) := ⟨_, rfl⟩
              have wn1 : IntKind.u64.wrap (x1) = (n1 : Int) := by rw [hn1, u64_wrap]
              have ln1 : n1 < 18446744073709551616 := by rw [hn1]; exact u64_lt _
              have Nn1 := Lib.hid hn1
              clear hn1
              obtain ⟨n2, hn2⟩ : ∃ n : Nat, n = u64 (x2) := ⟨_, rfl⟩
              have wn2 : IntKind.u64.wrap (x2) = (n2 : Int) := by rw [hn2, u64_wrap]
              have ln2 : n2 < 18446744073709551616 := by rw [hn2]; exact u64_lt _
              have Nn2 := Lib.hid hn2
              clear hn2
              go_upto_region 31 with fail
              refine wp_region_held_drew (S := fun y => y.heap[y78.heap.size]? = some (.cells #[.int .i64 x0, .int .i64 x1, .int .i64 x2, .int .i64 x3] 84 (0, 0))) (by as_aux_lemma => kernel_rfl) (hr79_1) (fun hS0 => ?_)
              obtain ⟨y80, hy80⟩ : ∃ y, y79.drew = y := ⟨_, rfl⟩
              have HU80 := Lib.hid (show Below w.heap.size w y80 by rw [← hy80]; exact HU79.out.drew)
              have hr80_0 : y80.heap[w.heap.size]? = some (.cells #[.int .i64 a1, .int .i64 a2, .int .i64 a3, .int .i64 a4, .int .i64 a5, .int .i64 a6, .int .u64 (sd : Int), .int .i64 r1, .int .i64 r2, .int .i64 r3, .int .i64 e1, .int .i64 e2, .int .i64 e3, .slice pa np pc, .slice ta nt tc, .slice ja nj jc, .slice sa ns sc] 32 (0, 0)) := by rw [← hy80]; exact hr79_0
              have hr80_1 : y80.heap[y78.heap.size]? = some (.cells #[.int .i64 x0, .int .i64 x1, .int .i64 x2, .int .i64 x3] 84 (0, 0)) := by rw [← hy80]; exact hr79_1
              have hzd80 : y79.heap.size ≤ y80.heap.size := by rw [← hy80]; exact (Below.refl y79.heap.size y79).drew.size
              have HO80 := Lib.hid (own_on (w' := y80) HO79.out (by rw [← hy80]; exact (Below.refl _ _).drew))
              rw [hy80] at hS0 ⊢
              clear hy80
              refine wpAnyH_take (i := 0) (v := ?_) rfl (by as_aux_lemma => kernel_rfl) (by as_aux_lemma => kernel_rfl) (by as_aux_lemma => kernel_rfl) (fun _ _ _ h => h) (Or.inl ⟨(by as_aux_lemma => kernel_rfl), by (intro wz hSz; go_simp; try with_reducible rfl)⟩) hS0 ?_
              go_simp
              refine wpAnyH_take (i := 1) (v := ?_) rfl (by as_aux_lemma => kernel_rfl) (by as_aux_lemma => kernel_rfl) (by as_aux_lemma => kernel_rfl) (fun _ _ _ h => h) (Or.inl ⟨(by as_aux_lemma => kernel_rfl), by (intro wz hSz; go_simp; try with_reducible rfl)⟩) hS0 ?_
              go_simp
              refine wpAnyH_take (i := 2) (v := ?_) rfl (by as_aux_lemma => kernel_rfl) (by as_aux_lemma => kernel_rfl) (by as_aux_lemma => kernel_rfl) (fun _ _ _ h => h) (Or.inl ⟨(by as_aux_lemma => kernel_rfl), by (intro wz hSz; have c1_0 := cell_of_row _ _ 0 _ _ _ hSz; have c1_1 := cell_of_row _ _ 1 _ _ _ hSz; have c1_2 := cell_of_row _ _ 2 _ _ _ hSz; have c1_3 := cell_of_row _ _ 3 _ _ _ hSz; simp at c1_0 c1_1 c1_2 c1_3; go_simp; try with_reducible rfl)⟩) hS0 ?_
              go_simp
              refine wpAnyH_take (i := 3) (v := ?_) rfl (by as_aux_lemma => kernel_rfl) (by as_aux_lemma => kernel_rfl) (by as_aux_lemma => kernel_rfl) (fun _ _ _ h => h) (Or.inl ⟨(by as_aux_lemma => kernel_rfl), by (intro wz hSz; go_simp; try with_reducible rfl)⟩) hS0 ?_
              go_simp
              refine wpAnyH_take (i := 5) (v := ?_) rfl (by as_aux_lemma => kernel_rfl) (by as_aux_lemma => kernel_rfl) (by as_aux_lemma => kernel_rfl) (fun _ _ _ h => h) (Or.inl ⟨(by as_aux_lemma => kernel_rfl), by (intro wz hSz; go_simp; try with_reducible rfl)⟩) hS0 ?_
              go_simp
              refine wpAnyH_take (i := 6) (v := ?_) rfl (by as_aux_lemma => kernel_rfl) (by as_aux_lemma => kernel_rfl) (by as_aux_lemma => kernel_rfl) (fun _ _ _ h => h) (Or.inl ⟨(by as_aux_lemma => kernel_rfl), by (intro wz hSz; have c1_0 := cell_of_row _ _ 0 _ _ _ hSz; have c1_1 := cell_of_row _ _ 1 _ _ _ hSz; have c1_2 := cell_of_row _ _ 2 _ _ _ hSz; have c1_3 := cell_of_row _ _ 3 _ _ _ hSz; simp at c1_0 c1_1 c1_2 c1_3; go_simp; try with_reducible rfl)⟩) hS0 ?_
              go_simp
              refine wpAnyH_take (i := 7) (v := ?_) rfl (by as_aux_lemma => kernel_rfl) (by as_aux_lemma => kernel_rfl) (by as_aux_lemma => kernel_rfl) (fun _ _ _ h => h) (Or.inl ⟨(by as_aux_lemma => kernel_rfl), by (intro wz hSz; go_simp; try with_reducible rfl)⟩) hS0 ?_
              go_simp
              refine wpAnyH_take (i := 9) (v := ?_) rfl (by as_aux_lemma => kernel_rfl) (by as_aux_lemma => kernel_rfl) (by as_aux_lemma => kernel_rfl) (fun _ _ _ h => h) (Or.inl ⟨(by as_aux_lemma => kernel_rfl), by (intro wz hSz; go_simp; try with_reducible rfl)⟩) hS0 ?_
              go_simp
              refine wpAnyH_take (i := 10) (v := ?_) rfl (by as_aux_lemma => kernel_rfl) (by as_aux_lemma => kernel_rfl) (by as_aux_lemma => kernel_rfl) (fun _ _ _ h => h) (Or.inl ⟨(by as_aux_lemma => kernel_rfl), by (intro wz hSz; have c1_0 := cell_of_row _ _ 0 _ _ _ hSz; have c1_1 := cell_of_row _ _ 1 _ _ _ hSz; have c1_2 := cell_of_row _ _ 2 _ _ _ hSz; have c1_3 := cell_of_row _ _ 3 _ _ _ hSz; simp at c1_0 c1_1 c1_2 c1_3; go_simp; try with_reducible rfl)⟩) hS0 ?_
              go_simp
              refine wpAnyH_take (i := 11) (v := ?_) rfl (by as_aux_lemma => kernel_rfl) (by as_aux_lemma => kernel_rfl) (by as_aux_lemma => kernel_rfl) (fun _ _ _ h => h) (Or.inl ⟨(by as_aux_lemma => kernel_rfl), by (intro wz hSz; go_simp; try with_reducible rfl)⟩) hS0 ?_
              go_simp
              refine wpAnyH_ready (rs := [4]) (by as_aux_lemma => kernel_rfl) (by simp) ?_
              refine AllReadyH.cons rfl (fun K hK => ?_) AllReadyH.nil
              go_simp
              go_wp2_with (go_at_call 23; refine (num_any (LK) n0 2 ln0 (by omega) _ _ (Re.own_bs HO80.out) (by first | omega | (simp only [List.length_append, numsOf_length, bytesOf_length, keysOf_length, List.length_cons, List.length_nil]; omega))).mono ?_; rintro e y81 ⟨⟨v81, rfl, ho⟩, hb81⟩; have HO81 := Lib.hid (show y81.ownsRow b0 5 1 v81 (LK ++ bytesOf (u64 (x0)) 2).length (vals (LK ++ bytesOf (u64 (x0)) 2)) from by rw [← Nn0.out]; exact own_mono ho (by omega)); clear ho; have hzs81 := hb81.size)
              have hr81_0 := (hb81.block _ (lt_heap hr80_0)).trans hr80_0
              have hr81_1 := (hb81.block _ (lt_heap hr80_1)).trans hr80_1
              have HU81 := Lib.hid (HU80.out.trans (hb81.mono HU80.out.size))
              refine hK.out _ _ ((hb81.block _ (lt_heap hS0)).trans hS0) (fun hS81c => ?_)
              clear hK K
              refine wpAnyH_ready (rs := [8]) (by as_aux_lemma => kernel_rfl) (by simp) ?_
              refine AllReadyH.cons rfl (fun K hK => ?_) AllReadyH.nil
              go_simp
              go_wp2_with (go_at_call 23; refine (num_any (LK ++ bytesOf (u64 (x0)) 2) n1 2 ln1 (by omega) _ _ (Re.own_bs HO81.out) (by first | omega | (simp only [List.length_append, numsOf_length, bytesOf_length, keysOf_length, List.length_cons, List.length_nil]; omega))).mono ?_; rintro e y82 ⟨⟨v82, rfl, ho⟩, hb82⟩; have HO82 := Lib.hid (show y82.ownsRow b0 5 1 v82 (LK ++ bytesOf (u64 (x0)) 2 ++ bytesOf (u64 (x1)) 2).length (vals (LK ++ bytesOf (u64 (x0)) 2 ++ bytesOf (u64 (x1)) 2)) from by rw [← Nn1.out]; exact own_mono ho (by omega)); clear ho; have hzs82 := hb82.size)
              have hr82_0 := (hb82.block _ (lt_heap hr81_0)).trans hr81_0
              have hr82_1 := (hb82.block _ (lt_heap hr81_1)).trans hr81_1
              have HU82 := Lib.hid (HU81.out.trans (hb82.mono HU81.out.size))
              refine hK.out _ _ ((hb82.block _ (lt_heap hS81c)).trans hS81c) (fun hS82c => ?_)
              clear hK K
              refine wpAnyH_ready (rs := [12]) (by as_aux_lemma => kernel_rfl) (by simp) ?_
              refine AllReadyH.cons rfl (fun K hK => ?_) AllReadyH.nil
              go_simp
              go_wp2_with (go_at_call 23; refine (num_any (LK ++ bytesOf (u64 (x0)) 2 ++ bytesOf (u64 (x1)) 2) n2 2 ln2 (by omega) _ _ (Re.own_bs HO82.out) (by first | omega | (simp only [List.length_append, numsOf_length, bytesOf_length, keysOf_length, List.length_cons, List.length_nil]; omega))).mono ?_; rintro e y83 ⟨⟨v83, rfl, ho⟩, hb83⟩; have HO83 := Lib.hid (show y83.ownsRow b0 5 1 v83 (LK ++ bytesOf (u64 (x0)) 2 ++ bytesOf (u64 (x1)) 2 ++ bytesOf (u64 (x2)) 2).length (vals (LK ++ bytesOf (u64 (x0)) 2 ++ bytesOf (u64 (x1)) 2 ++ bytesOf (u64 (x2)) 2)) from by rw [← Nn2.out]; exact own_mono ho (by omega)); clear ho; have hzs83 := hb83.size)
              have hr83_0 := (hb83.block _ (lt_heap hr82_0)).trans hr82_0
              have hr83_1 := (hb83.block _ (lt_heap hr82_1)).trans hr82_1
              have HU83 := Lib.hid (HU82.out.trans (hb83.mono HU82.out.size))
              refine hK.out _ _ ((hb83.block _ (lt_heap hS82c)).trans hS82c) (fun hS83c => ?_)
              clear hK K
              refine wpAnyH_take (i := 13) (v := ?_) rfl (by as_aux_lemma => kernel_rfl) (by as_aux_lemma => kernel_rfl) (by as_aux_lemma => kernel_rfl) (fun _ _ _ h => h) (Or.inl ⟨(by as_aux_lemma => kernel_rfl), by (intro wz hSz; go_simp; try with_reducible rfl)⟩) hS83c ?_
              go_simp
              refine wpAnyH_done (by as_aux_lemma => kernel_rfl) ?_ _
              clear wn0 ln0 Nn0 wn1 ln1 Nn1 wn2 ln2 Nn2
              obtain ⟨nx, hnx⟩ : ∃ n : Nat, n = u64 (x3) := ⟨_, rfl⟩
              have wnx : IntKind.u64.wrap (x3) = (nx : Int) := by rw [hnx, u64_wrap]
              have lnx : nx < 18446744073709551616 := by rw [hnx]; exact u64_lt _
              have Nnx := Lib.hid hnx
              clear hnx
              have c1_0 := cell_of_row _ _ 0 _ _ _ hr83_1
              have c1_1 := cell_of_row _ _ 1 _ _ _ hr83_1
              have c1_2 := cell_of_row _ _ 2 _ _ _ hr83_1
              have c1_3 := cell_of_row _ _ 3 _ _ _ hr83_1
              simp at c1_0 c1_1 c1_2 c1_3
              go_wp2_with fail
              clear c1_0 c1_1 c1_2 c1_3
              refine (num_any (LK ++ bytesOf (u64 (x0)) 2 ++ bytesOf (u64 (x1)) 2 ++ bytesOf (u64 (x2)) 2) nx 5 lnx (by omega) _ _ (Re.own_bs HO83.out) (by first | omega | (simp only [List.length_append, numsOf_length, bytesOf_length, keysOf_length, List.length_cons, List.length_nil]; omega))).mono ?_
              rintro e y84 ⟨⟨v84, rfl, ho⟩, hb84⟩
              have HO84 := Lib.hid (show y84.ownsRow b0 5 1 v84 (LK ++ bytesOf (u64 (x0)) 2 ++ bytesOf (u64 (x1)) 2 ++ bytesOf (u64 (x2)) 2 ++ bytesOf (u64 (x3)) 5).length (vals (LK ++ bytesOf (u64 (x0)) 2 ++ bytesOf (u64 (x1)) 2 ++ bytesOf (u64 (x2)) 2 ++ bytesOf (u64 (x3)) 5)) from by rw [← Nnx.out]; exact own_mono ho (by omega))
              have hzs84 := (hb84).size
              have hr84_0 := (hb84.block _ (lt_heap hr83_0)).trans hr83_0
              have hr84_1 := (hb84.block _ (lt_heap hr83_1)).trans hr83_1
              have HU84 := Lib.hid (HU83.out.trans (hb84.mono HU83.out.size))
              clear hr83_0 hr83_1 HU83
              clear HO83
              clear ho
              clear wnx lnx Nnx
              have HQ := Lib.hid (show y84.ownsRow b0 5 1 v84 (L2 ++ jointsOf J (k + 1)).length (vals (L2 ++ jointsOf J (k + 1))) by have h := HO84.out; rw [HLK.out] at h; rw [HKK.out]; simpa only [List.append_assoc, nums_cons, numsOf_nil, List.append_nil] using h)
              go_wp2_with fail
              go_roundw
              case rel => exact ⟨k + 1, by omega, by go_num, hr84_0, HQ, HU84, by omega⟩
              case measure => simp [intOf]; omega
            · have hkk : nj = k := by omega
              subst hkk
              obtain ⟨L3, hL3⟩ : ∃ L, L = L2 ++ jointsOf J nj := ⟨_, rfl⟩
              have hl3 : L3.length ≤ 2403200 := by rw [hL3]; rw [List.length_append]; have : (jointsOf J nj).length ≤ 200 * 4002 := (by rw [jointsOf_length]; omega); omega
              rw [← hL3] at HO78
              have HLL3 := Lib.hid hL3
              clear hL3
              have c0_13 := cell_of_row _ _ 13 _ _ _ hr78_0
              have c0_14 := cell_of_row _ _ 14 _ _ _ hr78_0
              have c0_15 := cell_of_row _ _ 15 _ _ _ hr78_0
              have c0_16 := cell_of_row _ _ 16 _ _ _ hr78_0
              simp at c0_13 c0_14 c0_15 c0_16
              go_upto_region 34 with fail
              clear c0_13 c0_14 c0_15 c0_16
              go_loopw [7, 15] (fun v i wr => ∃ k : Nat, k ≤ ns ∧ i = .int .i64 k ∧ wr.heap[w.heap.size]? = some (.cells #[.int .i64 a1, .int .i64 a2, .int .i64 a3, .int .i64 a4, .int .i64 a5, .int .i64 a6, .int .u64 (sd : Int), .int .i64 r1, .int .i64 r2, .int .i64 r3, .int .i64 e1, .int .i64 e2, .int .i64 e3, .slice pa np pc, .slice ta nt tc, .slice ja nj jc, .slice sa ns sc] 32 (0, 0)) ∧ Hid (wr.ownsRow b0 5 1 v (L3 ++ shapesOf S k).length (vals (L3 ++ shapesOf S k))) ∧ Hid (Below w.heap.size w wr) ∧ b0 ≤ wr.heap.size) (fun _ i _ => ns - (intOf i).toNat)
              case atStart => exact ⟨0, by omega, rfl, hr78_0, Lib.hid (by rw [shapesOf, List.append_nil]; exact HO78.out), HU78, by omega⟩
              case round =>
                clear hr78_0 HO78 HU78
                obtain ⟨k, hk, rfl, hr98_0, HO98, HU98, hbr⟩ := hrel
                obtain ⟨y98, rfl⟩ : ∃ y : World, y = wr := ⟨_, rfl⟩
                have hz98 := HU98.out.size
                have hl98_0 := lt_heap hr98_0
                by_cases hlt : k < ns
                · have hlt' : (k : Int) < ns := by omega
                  have hlk4 := (show (shapesOf S k).length ≤ 200 * 4002 from (by have := shapesOf_length S; first | exact Nat.le_trans (this k) (by omega) | exact Nat.le_trans (this ns) (by omega)))
                  have hlL4 : (L3 ++ shapesOf S k).length ≤ 3203600 := by rw [List.length_append]; omega
                  obtain ⟨LK, hLK⟩ : ∃ L, L = L3 ++ shapesOf S k := ⟨_, rfl⟩
                  rw [← hLK] at HO98 hlL4
                  have HLK := Lib.hid hLK
                  clear hLK
                  obtain ⟨eb, eoff, hpx, heb, k0, k1, k2, k3, k4, k5, k6, k7, k8, k9, k10, k11, k12⟩ := nums13 (HXX.out _ HU98.out) hlt
                  obtain ⟨x0, hx0⟩ : ∃ v, v = S (k * 13) := ⟨_, rfl⟩
                  rw [← hx0] at k0
                  obtain ⟨x1, hx1⟩ : ∃ v, v = S (k * 13 + 1) := ⟨_, rfl⟩
                  rw [← hx1] at k1
                  obtain ⟨x2, hx2⟩ : ∃ v, v = S (k * 13 + 2) := ⟨_, rfl⟩
                  rw [← hx2] at k2
                  obtain ⟨x3, hx3⟩ : ∃ v, v = S (k * 13 + 3) := ⟨_, rfl⟩
                  rw [← hx3] at k3
                  obtain ⟨x4, hx4⟩ : ∃ v, v = S (k * 13 + 4) := ⟨_, rfl⟩
                  rw [← hx4] at k4
                  obtain ⟨x5, hx5⟩ : ∃ v, v = S (k * 13 + 5) := ⟨_, rfl⟩
                  rw [← hx5] at k5
                  obtain ⟨x6, hx6⟩ : ∃ v, v = S (k * 13 + 6) := ⟨_, rfl⟩
                  rw [← hx6] at k6
                  obtain ⟨x7, hx7⟩ : ∃ v, v = S (k * 13 + 7) := ⟨_, rfl⟩
                  rw [← hx7] at k7
                  obtain ⟨x8, hx8⟩ : ∃ v, v = S (k * 13 + 8) := ⟨_, rfl⟩
                  rw [← hx8] at k8
                  obtain ⟨x9, hx9⟩ : ∃ v, v = S (k * 13 + 9) := ⟨_, rfl⟩
                  rw [← hx9] at k9
                  obtain ⟨x10, hx10⟩ : ∃ v, v = S (k * 13 + 10) := ⟨_, rfl⟩
                  rw [← hx10] at k10
                  obtain ⟨x11, hx11⟩ : ∃ v, v = S (k * 13 + 11) := ⟨_, rfl⟩
                  rw [← hx11] at k11
                  obtain ⟨x12, hx12⟩ : ∃ v, v = S (k * 13 + 12) := ⟨_, rfl⟩
                  rw [← hx12] at k12
                  have HKK := Lib.hid (show shapesOf S (k + 1) = shapesOf S k ++ shpB x0 x1 x2 x3 x4 x5 x6 x7 x8 x9 x10 x11 x12 by simp only [hx0, hx1, hx2, hx3, hx4, hx5, hx6, hx7, hx8, hx9, hx10, hx11, hx12]; rfl)
                  clear hx0 hx1 hx2 hx3 hx4 hx5 hx6 hx7 hx8 hx9 hx10 hx11 hx12
                  have c0_0 := cell_of_row _ _ 0 _ _ _ hr98_0
                  have c0_1 := cell_of_row _ _ 1 _ _ _ hr98_0
                  have c0_2 := cell_of_row _ _ 2 _ _ _ hr98_0
                  have c0_3 := cell_of_row _ _ 3 _ _ _ hr98_0
                  have c0_4 := cell_of_row _ _ 4 _ _ _ hr98_0
                  have c0_5 := cell_of_row _ _ 5 _ _ _ hr98_0
                  have c0_6 := cell_of_row _ _ 6 _ _ _ hr98_0
                  have c0_7 := cell_of_row _ _ 7 _ _ _ hr98_0
                  have c0_8 := cell_of_row _ _ 8 _ _ _ hr98_0
                  have c0_9 := cell_of_row _ _ 9 _ _ _ hr98_0
                  have c0_10 := cell_of_row _ _ 10 _ _ _ hr98_0
                  have c0_11 := cell_of_row _ _ 11 _ _ _ hr98_0
                  have c0_12 := cell_of_row _ _ 12 _ _ _ hr98_0
                  have c0_13 := cell_of_row _ _ 13 _ _ _ hr98_0
                  have c0_14 := cell_of_row _ _ 14 _ _ _ hr98_0
                  have c0_15 := cell_of_row _ _ 15 _ _ _ hr98_0
                  have c0_16 := cell_of_row _ _ 16 _ _ _ hr98_0
                  simp at c0_0 c0_1 c0_2 c0_3 c0_4 c0_5 c0_6 c0_7 c0_8 c0_9 c0_10 c0_11 c0_12 c0_13 c0_14 c0_15 c0_16
                  go_upto_region 37 with fail
                  clear c0_0 c0_1 c0_2 c0_3 c0_4 c0_5 c0_6 c0_7 c0_8 c0_9 c0_10 c0_11 c0_12 c0_13 c0_14 c0_15 c0_16
                  clear hpx k0 k1 k2 k3 k4 k5 k6 k7 k8 k9 k10 k11 k12
                  have HOX := Lib.hid (fun q hq => (HO98.out.lt q hq).2)
                  have hb99 := Ve.below_n1 y98 (.cells #[.int .i64 x0, .int .i64 x1, .int .i64 x2, .int .i64 x3, .int .i64 x4, .int .i64 x5, .int .i64 x6, .int .i64 x7, .int .i64 x8, .int .i64 x9, .int .i64 x10, .int .i64 x11, .int .i64 x12] 90)
                  have hN := heap_alloc_last y98 (.cells #[.int .i64 x0, .int .i64 x1, .int .i64 x2, .int .i64 x3, .int .i64 x4, .int .i64 x5, .int .i64 x6, .int .i64 x7, .int .i64 x8, .int .i64 x9, .int .i64 x10, .int .i64 x11, .int .i64 x12] 90)
                  obtain ⟨y99, hy99⟩ : ∃ y, y98.alloc (.cells #[.int .i64 x0, .int .i64 x1, .int .i64 x2, .int .i64 x3, .int .i64 x4, .int .i64 x5, .int .i64 x6, .int .i64 x7, .int .i64 x8, .int .i64 x9, .int .i64 x10, .int .i64 x11, .int .i64 x12] 90) = y := ⟨_, rfl⟩
                  have hs99 : y99.heap.size = y98.heap.size + 1 := by rw [← hy99]; simp
                  rw [hy99] at hb99 hN ⊢
                  clear hy99
                  have hl99_0 := lt_heap hr98_0
                  have HO99 := Lib.hid (own_on HO98.out hb99)
                  have hzs99 := (hb99).size
                  have hr99_0 := (hb99.block _ (lt_heap hr98_0)).trans hr98_0
                  have HU99 := Lib.hid (HU98.out.trans (hb99.mono HU98.out.size))
                  clear hr98_0 HU98
                  clear HO98
                  have hr99_1 := hN
                  clear hN
                  replace hs99 : y98.heap.size < y99.heap.size := by omega
                  obtain ⟨n0, hn0⟩ : ∃ n : Nat, n = u64 (x0) := ⟨_, rfl⟩
                  have wn0 : IntKind.u64.wrap (x0) = (n0 : Int) := by rw [hn0, u64_wrap]
                  have ln0 : n0 < 18446744073709551616 := by rw [hn0]; exact u64_lt _
                  have Nn0 := Lib.hid hn0
                  clear hn0
                  obtain ⟨n1, hn1⟩ : ∃ n : Nat, n = u64 (x1) := ⟨_, rfl⟩
                  have wn1 : IntKind.u64.wrap (x1) = (n1 : Int) := by rw [hn1, u64_wrap]
                  have ln1 : n1 < 18446744073709551616 := by rw [hn1]; exact u64_lt _
                  have Nn1 := Lib.hid hn1
                  clear hn1
                  obtain ⟨n2, hn2⟩ : ∃ n : Nat, n = u64 (x2) := ⟨_, rfl⟩
                  have wn2 : IntKind.u64.wrap (x2) = (n2 : Int) := by rw [hn2, u64_wrap]
                  have ln2 : n2 < 18446744073709551616 := by rw [hn2]; exact u64_lt _
                  have Nn2 := Lib.hid hn2
                  clear hn2
                  go_upto_region 37 with fail
                  refine wp_region_held_drew (S := fun y => y.heap[y98.heap.size]? = some (.cells #[.int .i64 x0, .int .i64 x1, .int .i64 x2, .int .i64 x3, .int .i64 x4, .int .i64 x5, .int .i64 x6, .int .i64 x7, .int .i64 x8, .int .i64 x9, .int .i64 x10, .int .i64 x11, .int .i64 x12] 90 (0, 0))) (by as_aux_lemma => kernel_rfl) (hr99_1) (fun hS0 => ?_)
                  obtain ⟨y100, hy100⟩ : ∃ y, y99.drew = y := ⟨_, rfl⟩
                  have HU100 := Lib.hid (show Below w.heap.size w y100 by rw [← hy100]; exact HU99.out.drew)
                  have hr100_0 : y100.heap[w.heap.size]? = some (.cells #[.int .i64 a1, .int .i64 a2, .int .i64 a3, .int .i64 a4, .int .i64 a5, .int .i64 a6, .int .u64 (sd : Int), .int .i64 r1, .int .i64 r2, .int .i64 r3, .int .i64 e1, .int .i64 e2, .int .i64 e3, .slice pa np pc, .slice ta nt tc, .slice ja nj jc, .slice sa ns sc] 32 (0, 0)) := by rw [← hy100]; exact hr99_0
                  have hr100_1 : y100.heap[y98.heap.size]? = some (.cells #[.int .i64 x0, .int .i64 x1, .int .i64 x2, .int .i64 x3, .int .i64 x4, .int .i64 x5, .int .i64 x6, .int .i64 x7, .int .i64 x8, .int .i64 x9, .int .i64 x10, .int .i64 x11, .int .i64 x12] 90 (0, 0)) := by rw [← hy100]; exact hr99_1
                  have hzd100 : y99.heap.size ≤ y100.heap.size := by rw [← hy100]; exact (Below.refl y99.heap.size y99).drew.size
                  have HO100 := Lib.hid (own_on (w' := y100) HO99.out (by rw [← hy100]; exact (Below.refl _ _).drew))
                  rw [hy100] at hS0 ⊢
                  clear hy100
                  refine wpAnyH_take (i := 0) (v := ?_) rfl (by as_aux_lemma => kernel_rfl) (by as_aux_lemma => kernel_rfl) (by as_aux_lemma => kernel_rfl) (fun _ _ _ h => h) (Or.inl ⟨(by as_aux_lemma => kernel_rfl), by (intro wz hSz; go_simp; try with_reducible rfl)⟩) hS0 ?_
                  go_simp
                  refine wpAnyH_take (i := 1) (v := ?_) rfl (by as_aux_lemma => kernel_rfl) (by as_aux_lemma => kernel_rfl) (by as_aux_lemma => kernel_rfl) (fun _ _ _ h => h) (Or.inl ⟨(by as_aux_lemma => kernel_rfl), by (intro wz hSz; go_simp; try with_reducible rfl)⟩) hS0 ?_
                  go_simp
                  refine wpAnyH_take (i := 2) (v := ?_) rfl (by as_aux_lemma => kernel_rfl) (by as_aux_lemma => kernel_rfl) (by as_aux_lemma => kernel_rfl) (fun _ _ _ h => h) (Or.inl ⟨(by as_aux_lemma => kernel_rfl), by (intro wz hSz; have c1_0 := cell_of_row _ _ 0 _ _ _ hSz; have c1_1 := cell_of_row _ _ 1 _ _ _ hSz; have c1_2 := cell_of_row _ _ 2 _ _ _ hSz; simp at c1_0 c1_1 c1_2; go_simp; try with_reducible rfl)⟩) hS0 ?_
                  go_simp
                  refine wpAnyH_take (i := 3) (v := ?_) rfl (by as_aux_lemma => kernel_rfl) (by as_aux_lemma => kernel_rfl) (by as_aux_lemma => kernel_rfl) (fun _ _ _ h => h) (Or.inl ⟨(by as_aux_lemma => kernel_rfl), by (intro wz hSz; go_simp; try with_reducible rfl)⟩) hS0 ?_
                  go_simp
                  refine wpAnyH_take (i := 5) (v := ?_) rfl (by as_aux_lemma => kernel_rfl) (by as_aux_lemma => kernel_rfl) (by as_aux_lemma => kernel_rfl) (fun _ _ _ h => h) (Or.inl ⟨(by as_aux_lemma => kernel_rfl), by (intro wz hSz; go_simp; try with_reducible rfl)⟩) hS0 ?_
                  go_simp
                  refine wpAnyH_take (i := 6) (v := ?_) rfl (by as_aux_lemma => kernel_rfl) (by as_aux_lemma => kernel_rfl) (by as_aux_lemma => kernel_rfl) (fun _ _ _ h => h) (Or.inl ⟨(by as_aux_lemma => kernel_rfl), by (intro wz hSz; have c1_0 := cell_of_row _ _ 0 _ _ _ hSz; have c1_1 := cell_of_row _ _ 1 _ _ _ hSz; have c1_2 := cell_of_row _ _ 2 _ _ _ hSz; simp at c1_0 c1_1 c1_2; go_simp; try with_reducible rfl)⟩) hS0 ?_
                  go_simp
                  refine wpAnyH_take (i := 7) (v := ?_) rfl (by as_aux_lemma => kernel_rfl) (by as_aux_lemma => kernel_rfl) (by as_aux_lemma => kernel_rfl) (fun _ _ _ h => h) (Or.inl ⟨(by as_aux_lemma => kernel_rfl), by (intro wz hSz; go_simp; try with_reducible rfl)⟩) hS0 ?_
                  go_simp
                  refine wpAnyH_take (i := 9) (v := ?_) rfl (by as_aux_lemma => kernel_rfl) (by as_aux_lemma => kernel_rfl) (by as_aux_lemma => kernel_rfl) (fun _ _ _ h => h) (Or.inl ⟨(by as_aux_lemma => kernel_rfl), by (intro wz hSz; go_simp; try with_reducible rfl)⟩) hS0 ?_
                  go_simp
                  refine wpAnyH_take (i := 10) (v := ?_) rfl (by as_aux_lemma => kernel_rfl) (by as_aux_lemma => kernel_rfl) (by as_aux_lemma => kernel_rfl) (fun _ _ _ h => h) (Or.inl ⟨(by as_aux_lemma => kernel_rfl), by (intro wz hSz; have c1_0 := cell_of_row _ _ 0 _ _ _ hSz; have c1_1 := cell_of_row _ _ 1 _ _ _ hSz; have c1_2 := cell_of_row _ _ 2 _ _ _ hSz; simp at c1_0 c1_1 c1_2; go_simp; try with_reducible rfl)⟩) hS0 ?_
                  go_simp
                  refine wpAnyH_take (i := 11) (v := ?_) rfl (by as_aux_lemma => kernel_rfl) (by as_aux_lemma => kernel_rfl) (by as_aux_lemma => kernel_rfl) (fun _ _ _ h => h) (Or.inl ⟨(by as_aux_lemma => kernel_rfl), by (intro wz hSz; go_simp; try with_reducible rfl)⟩) hS0 ?_
                  go_simp
                  refine wpAnyH_ready (rs := [4]) (by as_aux_lemma => kernel_rfl) (by simp) ?_
                  refine AllReadyH.cons rfl (fun K hK => ?_) AllReadyH.nil
                  go_simp
                  go_wp2_with (go_at_call 23; refine (num_any (LK) n0 2 ln0 (by omega) _ _ (Re.own_bs HO100.out) (by first | omega | (simp only [List.length_append, numsOf_length, bytesOf_length, keysOf_length, List.length_cons, List.length_nil]; omega))).mono ?_; rintro e y101 ⟨⟨v101, rfl, ho⟩, hb101⟩; have HO101 := Lib.hid (show y101.ownsRow b0 5 1 v101 (LK ++ bytesOf (u64 (x0)) 2).length (vals (LK ++ bytesOf (u64 (x0)) 2)) from by rw [← Nn0.out]; exact own_mono ho (by omega)); clear ho; have hzs101 := hb101.size)
                  have hr101_0 := (hb101.block _ (lt_heap hr100_0)).trans hr100_0
                  have hr101_1 := (hb101.block _ (lt_heap hr100_1)).trans hr100_1
                  have HU101 := Lib.hid (HU100.out.trans (hb101.mono HU100.out.size))
                  refine hK.out _ _ ((hb101.block _ (lt_heap hS0)).trans hS0) (fun hS101c => ?_)
                  clear hK K
                  refine wpAnyH_ready (rs := [8]) (by as_aux_lemma => kernel_rfl) (by simp) ?_
                  refine AllReadyH.cons rfl (fun K hK => ?_) AllReadyH.nil
                  go_simp
                  go_wp2_with (go_at_call 23; refine (num_any (LK ++ bytesOf (u64 (x0)) 2) n1 2 ln1 (by omega) _ _ (Re.own_bs HO101.out) (by first | omega | (simp only [List.length_append, numsOf_length, bytesOf_length, keysOf_length, List.length_cons, List.length_nil]; omega))).mono ?_; rintro e y102 ⟨⟨v102, rfl, ho⟩, hb102⟩; have HO102 := Lib.hid (show y102.ownsRow b0 5 1 v102 (LK ++ bytesOf (u64 (x0)) 2 ++ bytesOf (u64 (x1)) 2).length (vals (LK ++ bytesOf (u64 (x0)) 2 ++ bytesOf (u64 (x1)) 2)) from by rw [← Nn1.out]; exact own_mono ho (by omega)); clear ho; have hzs102 := hb102.size)
                  have hr102_0 := (hb102.block _ (lt_heap hr101_0)).trans hr101_0
                  have hr102_1 := (hb102.block _ (lt_heap hr101_1)).trans hr101_1
                  have HU102 := Lib.hid (HU101.out.trans (hb102.mono HU101.out.size))
                  refine hK.out _ _ ((hb102.block _ (lt_heap hS101c)).trans hS101c) (fun hS102c => ?_)
                  clear hK K
                  refine wpAnyH_ready (rs := [12]) (by as_aux_lemma => kernel_rfl) (by simp) ?_
                  refine AllReadyH.cons rfl (fun K hK => ?_) AllReadyH.nil
                  go_simp
                  go_wp2_with (go_at_call 23; refine (num_any (LK ++ bytesOf (u64 (x0)) 2 ++ bytesOf (u64 (x1)) 2) n2 1 ln2 (by omega) _ _ (Re.own_bs HO102.out) (by first | omega | (simp only [List.length_append, numsOf_length, bytesOf_length, keysOf_length, List.length_cons, List.length_nil]; omega))).mono ?_; rintro e y103 ⟨⟨v103, rfl, ho⟩, hb103⟩; have HO103 := Lib.hid (show y103.ownsRow b0 5 1 v103 (LK ++ bytesOf (u64 (x0)) 2 ++ bytesOf (u64 (x1)) 2 ++ bytesOf (u64 (x2)) 1).length (vals (LK ++ bytesOf (u64 (x0)) 2 ++ bytesOf (u64 (x1)) 2 ++ bytesOf (u64 (x2)) 1)) from by rw [← Nn2.out]; exact own_mono ho (by omega)); clear ho; have hzs103 := hb103.size)
                  have hr103_0 := (hb103.block _ (lt_heap hr102_0)).trans hr102_0
                  have hr103_1 := (hb103.block _ (lt_heap hr102_1)).trans hr102_1
                  have HU103 := Lib.hid (HU102.out.trans (hb103.mono HU102.out.size))
                  refine hK.out _ _ ((hb103.block _ (lt_heap hS102c)).trans hS102c) (fun hS103c => ?_)
                  clear hK K
                  refine wpAnyH_take (i := 13) (v := ?_) rfl (by as_aux_lemma => kernel_rfl) (by as_aux_lemma => kernel_rfl) (by as_aux_lemma => kernel_rfl) (fun _ _ _ h => h) (Or.inl ⟨(by as_aux_lemma => kernel_rfl), by (intro wz hSz; go_simp; try with_reducible rfl)⟩) hS103c ?_
                  go_simp
                  refine wpAnyH_done (by as_aux_lemma => kernel_rfl) ?_ _
                  clear wn0 ln0 Nn0 wn1 ln1 Nn1 wn2 ln2 Nn2
                  have c1_0 := cell_of_row _ _ 0 _ _ _ hr103_1
                  have c1_1 := cell_of_row _ _ 1 _ _ _ hr103_1
                  have c1_2 := cell_of_row _ _ 2 _ _ _ hr103_1
                  have c1_3 := cell_of_row _ _ 3 _ _ _ hr103_1
                  have c1_4 := cell_of_row _ _ 4 _ _ _ hr103_1
                  have c1_5 := cell_of_row _ _ 5 _ _ _ hr103_1
                  have c1_6 := cell_of_row _ _ 6 _ _ _ hr103_1
                  have c1_7 := cell_of_row _ _ 7 _ _ _ hr103_1
                  have c1_8 := cell_of_row _ _ 8 _ _ _ hr103_1
                  have c1_9 := cell_of_row _ _ 9 _ _ _ hr103_1
                  have c1_10 := cell_of_row _ _ 10 _ _ _ hr103_1
                  have c1_11 := cell_of_row _ _ 11 _ _ _ hr103_1
                  have c1_12 := cell_of_row _ _ 12 _ _ _ hr103_1
                  simp at c1_0 c1_1 c1_2 c1_3 c1_4 c1_5 c1_6 c1_7 c1_8 c1_9 c1_10 c1_11 c1_12
                  go_wp2_with fail
                  clear c1_0 c1_1 c1_2 c1_3 c1_4 c1_5 c1_6 c1_7 c1_8 c1_9 c1_10 c1_11 c1_12
                  refine (dvec_any (LK ++ bytesOf (u64 (x0)) 2 ++ bytesOf (u64 (x1)) 2 ++ bytesOf (u64 (x2)) 1) (x3) (x4) (x5) _ _ (Re.own_bs HO103.out) (by first | omega | (simp only [List.length_append, numsOf_length, bytesOf_length, keysOf_length, List.length_cons, List.length_nil]; omega))).mono ?_
                  rintro e y104 ⟨⟨v104, rfl, ho⟩, hb104⟩
                  have HO104 := Lib.hid (show y104.ownsRow b0 5 1 v104 (LK ++ bytesOf (u64 (x0)) 2 ++ bytesOf (u64 (x1)) 2 ++ bytesOf (u64 (x2)) 1 ++ numsOf 5 [x3, x4, x5]).length (vals (LK ++ bytesOf (u64 (x0)) 2 ++ bytesOf (u64 (x1)) 2 ++ bytesOf (u64 (x2)) 1 ++ numsOf 5 [x3, x4, x5])) from own_mono ho (by omega))
                  have hzs104 := (hb104).size
                  have hr104_0 := (hb104.block _ (lt_heap hr103_0)).trans hr103_0
                  have hr104_1 := (hb104.block _ (lt_heap hr103_1)).trans hr103_1
                  have HU104 := Lib.hid (HU103.out.trans (hb104.mono HU103.out.size))
                  clear hr103_0 hr103_1 HU103
                  clear HO103
                  clear ho
                  by_cases h0 : x2 = 0
                  · have d1 : (x2 == 0) = true := by simpa using h0
                    have d2 := decide_eq_true h0
                    have HKK := Lib.hid (show shapesOf S (k + 1) = shapesOf S k ++ (numsOf 2 [x0, x1] ++ (numsOf 1 [x2] ++ (numsOf 5 [x3, x4, x5] ++ numsOf 5 [x12]))) by rw [HKK.out]; unfold shpB; rw [if_pos h0])
                    have c1_2 := cell_of_row _ _ 2 _ _ _ hr104_1
                    simp at c1_2
                    go_upto_region 40 with fail
                    clear d1 d2
                    clear c1_2
                    obtain ⟨nx, hnx⟩ : ∃ n : Nat, n = u64 (x12) := ⟨_, rfl⟩
                    have wnx : IntKind.u64.wrap (x12) = (nx : Int) := by rw [hnx, u64_wrap]
                    have lnx : nx < 18446744073709551616 := by rw [hnx]; exact u64_lt _
                    have Nnx := Lib.hid hnx
                    clear hnx
                    have c1_0 := cell_of_row _ _ 0 _ _ _ hr104_1
                    have c1_1 := cell_of_row _ _ 1 _ _ _ hr104_1
                    have c1_2 := cell_of_row _ _ 2 _ _ _ hr104_1
                    have c1_3 := cell_of_row _ _ 3 _ _ _ hr104_1
                    have c1_4 := cell_of_row _ _ 4 _ _ _ hr104_1
                    have c1_5 := cell_of_row _ _ 5 _ _ _ hr104_1
                    have c1_6 := cell_of_row _ _ 6 _ _ _ hr104_1
                    have c1_7 := cell_of_row _ _ 7 _ _ _ hr104_1
                    have c1_8 := cell_of_row _ _ 8 _ _ _ hr104_1
                    have c1_9 := cell_of_row _ _ 9 _ _ _ hr104_1
                    have c1_10 := cell_of_row _ _ 10 _ _ _ hr104_1
                    have c1_11 := cell_of_row _ _ 11 _ _ _ hr104_1
                    have c1_12 := cell_of_row _ _ 12 _ _ _ hr104_1
                    simp at c1_0 c1_1 c1_2 c1_3 c1_4 c1_5 c1_6 c1_7 c1_8 c1_9 c1_10 c1_11 c1_12
                    go_wp2_with fail
                    clear c1_0 c1_1 c1_2 c1_3 c1_4 c1_5 c1_6 c1_7 c1_8 c1_9 c1_10 c1_11 c1_12
                    refine (num_any (LK ++ bytesOf (u64 (x0)) 2 ++ bytesOf (u64 (x1)) 2 ++ bytesOf (u64 (x2)) 1 ++ numsOf 5 [x3, x4, x5]) nx 5 lnx (by omega) _ _ (Re.own_bs HO104.out) (by first | omega | (simp only [List.length_append, numsOf_length, bytesOf_length, keysOf_length, List.length_cons, List.length_nil]; omega))).mono ?_
                    rintro e y105 ⟨⟨v105, rfl, ho⟩, hb105⟩
                    have HO105 := Lib.hid (show y105.ownsRow b0 5 1 v105 (LK ++ bytesOf (u64 (x0)) 2 ++ bytesOf (u64 (x1)) 2 ++ bytesOf (u64 (x2)) 1 ++ numsOf 5 [x3, x4, x5] ++ bytesOf (u64 (x12)) 5).length (vals (LK ++ bytesOf (u64 (x0)) 2 ++ bytesOf (u64 (x1)) 2 ++ bytesOf (u64 (x2)) 1 ++ numsOf 5 [x3, x4, x5] ++ bytesOf (u64 (x12)) 5)) from by rw [← Nnx.out]; exact own_mono ho (by omega))
                    have hzs105 := (hb105).size
                    have hr105_0 := (hb105.block _ (lt_heap hr104_0)).trans hr104_0
                    have hr105_1 := (hb105.block _ (lt_heap hr104_1)).trans hr104_1
                    have HU105 := Lib.hid (HU104.out.trans (hb105.mono HU104.out.size))
                    clear hr104_0 hr104_1 HU104
                    clear HO104
                    clear ho
                    clear wnx lnx Nnx
                    have HQ := Lib.hid (show y105.ownsRow b0 5 1 v105 (L3 ++ shapesOf S (k + 1)).length (vals (L3 ++ shapesOf S (k + 1))) by have h := HO105.out; rw [HLK.out] at h; rw [HKK.out]; simpa only [List.append_assoc, nums_cons, numsOf_nil, List.append_nil] using h)
                    go_wp2_with fail
                    go_roundw
                    case rel => exact ⟨k + 1, by omega, by go_num, hr105_0, HQ, HU105, by omega⟩
                    case measure => simp [intOf]; omega
                  · have d1 : (x2 == 0) = false := by simpa using h0
                    have d2 := decide_eq_false h0
                    have HKK := Lib.hid (show shapesOf S (k + 1) = shapesOf S k ++ (numsOf 2 [x0, x1] ++ (numsOf 1 [x2] ++ numsOf 5 [x3, x4, x5, x6, x7, x8, x9, x10, x11])) by rw [HKK.out]; unfold shpB; rw [if_neg h0])
                    have c1_0 := cell_of_row _ _ 0 _ _ _ hr104_1
                    have c1_1 := cell_of_row _ _ 1 _ _ _ hr104_1
                    have c1_2 := cell_of_row _ _ 2 _ _ _ hr104_1
                    have c1_3 := cell_of_row _ _ 3 _ _ _ hr104_1
                    have c1_4 := cell_of_row _ _ 4 _ _ _ hr104_1
                    have c1_5 := cell_of_row _ _ 5 _ _ _ hr104_1
                    have c1_6 := cell_of_row _ _ 6 _ _ _ hr104_1
                    have c1_7 := cell_of_row _ _ 7 _ _ _ hr104_1
                    have c1_8 := cell_of_row _ _ 8 _ _ _ hr104_1
                    have c1_9 := cell_of_row _ _ 9 _ _ _ hr104_1
                    have c1_10 := cell_of_row _ _ 10 _ _ _ hr104_1
                    have c1_11 := cell_of_row _ _ 11 _ _ _ hr104_1
                    have c1_12 := cell_of_row _ _ 12 _ _ _ hr104_1
                    simp at c1_0 c1_1 c1_2 c1_3 c1_4 c1_5 c1_6 c1_7 c1_8 c1_9 c1_10 c1_11 c1_12
                    go_upto_region 41 with fail
                    clear d1 d2
                    clear c1_0 c1_1 c1_2 c1_3 c1_4 c1_5 c1_6 c1_7 c1_8 c1_9 c1_10 c1_11 c1_12
                    go_upto_region 41 with fail
                    refine wp_region_held_drew (S := fun y => y.heap[y98.heap.size]? = some (.cells #[.int .i64 x0, .int .i64 x1, .int .i64 x2, .int .i64 x3, .int .i64 x4, .int .i64 x5, .int .i64 x6, .int .i64 x7, .int .i64 x8, .int .i64 x9, .int .i64 x10, .int .i64 x11, .int .i64 x12] 90 (0, 0))) (by as_aux_lemma => kernel_rfl) (hr104_1) (fun hS0 => ?_)
                    obtain ⟨y105, hy105⟩ : ∃ y, y104.drew = y := ⟨_, rfl⟩
                    have HU105 := Lib.hid (show Below w.heap.size w y105 by rw [← hy105]; exact HU104.out.drew)
                    have hr105_0 : y105.heap[w.heap.size]? = some (.cells #[.int .i64 a1, .int .i64 a2, .int .i64 a3, .int .i64 a4, .int .i64 a5, .int .i64 a6, .int .u64 (sd : Int), .int .i64 r1, .int .i64 r2, .int .i64 r3, .int .i64 e1, .int .i64 e2, .int .i64 e3, .slice pa np pc, .slice ta nt tc, .slice ja nj jc, .slice sa ns sc] 32 (0, 0)) := by rw [← hy105]; exact hr104_0
                    have hr105_1 : y105.heap[y98.heap.size]? = some (.cells #[.int .i64 x0, .int .i64 x1, .int .i64 x2, .int .i64 x3, .int .i64 x4, .int .i64 x5, .int .i64 x6, .int .i64 x7, .int .i64 x8, .int .i64 x9, .int .i64 x10, .int .i64 x11, .int .i64 x12] 90 (0, 0)) := by rw [← hy105]; exact hr104_1
                    have hzd105 : y104.heap.size ≤ y105.heap.size := by rw [← hy105]; exact (Below.refl y104.heap.size y104).drew.size
                    have HO105 := Lib.hid (own_on (w' := y105) HO104.out (by rw [← hy105]; exact (Below.refl _ _).drew))
                    rw [hy105] at hS0 ⊢
                    clear hy105
                    refine wpAnyH_take (i := 0) (v := ?_) rfl (by as_aux_lemma => kernel_rfl) (by as_aux_lemma => kernel_rfl) (by as_aux_lemma => kernel_rfl) (fun _ _ _ h => h) (Or.inl ⟨(by as_aux_lemma => kernel_rfl), by (intro wz hSz; go_simp; try with_reducible rfl)⟩) hS0 ?_
                    go_simp
                    refine wpAnyH_take (i := 1) (v := ?_) rfl (by as_aux_lemma => kernel_rfl) (by as_aux_lemma => kernel_rfl) (by as_aux_lemma => kernel_rfl) (fun _ _ _ h => h) (Or.inl ⟨(by as_aux_lemma => kernel_rfl), by (intro wz hSz; go_simp; try with_reducible rfl)⟩) hS0 ?_
                    go_simp
                    refine wpAnyH_take (i := 2) (v := ?_) rfl (by as_aux_lemma => kernel_rfl) (by as_aux_lemma => kernel_rfl) (by as_aux_lemma => kernel_rfl) (fun _ _ _ h => h) (Or.inl ⟨(by as_aux_lemma => kernel_rfl), by (intro wz hSz; go_simp; try with_reducible rfl)⟩) hS0 ?_
                    go_simp
                    refine wpAnyH_take (i := 3) (v := ?_) rfl (by as_aux_lemma => kernel_rfl) (by as_aux_lemma => kernel_rfl) (by as_aux_lemma => kernel_rfl) (fun _ _ _ h => h) (Or.inl ⟨(by as_aux_lemma => kernel_rfl), by (intro wz hSz; have c1_6 := cell_of_row _ _ 6 _ _ _ hSz; have c1_7 := cell_of_row _ _ 7 _ _ _ hSz; have c1_8 := cell_of_row _ _ 8 _ _ _ hSz; have c1_9 := cell_of_row _ _ 9 _ _ _ hSz; have c1_10 := cell_of_row _ _ 10 _ _ _ hSz; have c1_11 := cell_of_row _ _ 11 _ _ _ hSz; simp at c1_6 c1_7 c1_8 c1_9 c1_10 c1_11; go_simp; try with_reducible rfl)⟩) hS0 ?_
                    go_simp
                    refine wpAnyH_take (i := 5) (v := ?_) rfl (by as_aux_lemma => kernel_rfl) (by as_aux_lemma => kernel_rfl) (by as_aux_lemma => kernel_rfl) (fun _ _ _ h => h) (Or.inl ⟨(by as_aux_lemma => kernel_rfl), by (intro wz hSz; go_simp; try with_reducible rfl)⟩) hS0 ?_
                    go_simp
                    refine wpAnyH_take (i := 6) (v := ?_) rfl (by as_aux_lemma => kernel_rfl) (by as_aux_lemma => kernel_rfl) (by as_aux_lemma => kernel_rfl) (fun _ _ _ h => h) (Or.inl ⟨(by as_aux_lemma => kernel_rfl), by (intro wz hSz; go_simp; try with_reducible rfl)⟩) hS0 ?_
                    go_simp
                    refine wpAnyH_take (i := 7) (v := ?_) rfl (by as_aux_lemma => kernel_rfl) (by as_aux_lemma => kernel_rfl) (by as_aux_lemma => kernel_rfl) (fun _ _ _ h => h) (Or.inl ⟨(by as_aux_lemma => kernel_rfl), by (intro wz hSz; have c1_6 := cell_of_row _ _ 6 _ _ _ hSz; have c1_7 := cell_of_row _ _ 7 _ _ _ hSz; have c1_8 := cell_of_row _ _ 8 _ _ _ hSz; have c1_9 := cell_of_row _ _ 9 _ _ _ hSz; have c1_10 := cell_of_row _ _ 10 _ _ _ hSz; have c1_11 := cell_of_row _ _ 11 _ _ _ hSz; simp at c1_6 c1_7 c1_8 c1_9 c1_10 c1_11; go_simp; try with_reducible rfl)⟩) hS0 ?_
                    go_simp
                    refine wpAnyH_ready (rs := [4]) (by as_aux_lemma => kernel_rfl) (by simp) ?_
                    refine AllReadyH.cons rfl (fun K hK => ?_) AllReadyH.nil
                    go_simp
                    go_wp2_with (go_at_call 24; refine (dvec_any (LK ++ bytesOf (u64 (x0)) 2 ++ bytesOf (u64 (x1)) 2 ++ bytesOf (u64 (x2)) 1 ++ numsOf 5 [x3, x4, x5]) (x6) (x7) (x8) _ _ (Re.own_bs HO105.out) (by first | omega | (simp only [List.length_append, numsOf_length, bytesOf_length, keysOf_length, List.length_cons, List.length_nil]; omega))).mono ?_; rintro e y106 ⟨⟨v106, rfl, ho⟩, hb106⟩; have HO106 := Lib.hid (show y106.ownsRow b0 5 1 v106 (LK ++ bytesOf (u64 (x0)) 2 ++ bytesOf (u64 (x1)) 2 ++ bytesOf (u64 (x2)) 1 ++ numsOf 5 [x3, x4, x5] ++ numsOf 5 [x6, x7, x8]).length (vals (LK ++ bytesOf (u64 (x0)) 2 ++ bytesOf (u64 (x1)) 2 ++ bytesOf (u64 (x2)) 1 ++ numsOf 5 [x3, x4, x5] ++ numsOf 5 [x6, x7, x8])) from own_mono ho (by omega)); clear ho; have hzs106 := hb106.size)
                    have hr106_0 := (hb106.block _ (lt_heap hr105_0)).trans hr105_0
                    have hr106_1 := (hb106.block _ (lt_heap hr105_1)).trans hr105_1
                    have HU106 := Lib.hid (HU105.out.trans (hb106.mono HU105.out.size))
                    refine hK.out _ _ ((hb106.block _ (lt_heap hS0)).trans hS0) (fun hS106c => ?_)
                    clear hK K
                    refine wpAnyH_ready (rs := [8]) (by as_aux_lemma => kernel_rfl) (by simp) ?_
                    refine AllReadyH.cons rfl (fun K hK => ?_) AllReadyH.nil
                    go_simp
                    go_wp2_with (go_at_call 24; refine (dvec_any (LK ++ bytesOf (u64 (x0)) 2 ++ bytesOf (u64 (x1)) 2 ++ bytesOf (u64 (x2)) 1 ++ numsOf 5 [x3, x4, x5] ++ numsOf 5 [x6, x7, x8]) (x9) (x10) (x11) _ _ (Re.own_bs HO106.out) (by first | omega | (simp only [List.length_append, numsOf_length, bytesOf_length, keysOf_length, List.length_cons, List.length_nil]; omega))).mono ?_; rintro e y107 ⟨⟨v107, rfl, ho⟩, hb107⟩; have HO107 := Lib.hid (show y107.ownsRow b0 5 1 v107 (LK ++ bytesOf (u64 (x0)) 2 ++ bytesOf (u64 (x1)) 2 ++ bytesOf (u64 (x2)) 1 ++ numsOf 5 [x3, x4, x5] ++ numsOf 5 [x6, x7, x8] ++ numsOf 5 [x9, x10, x11]).length (vals (LK ++ bytesOf (u64 (x0)) 2 ++ bytesOf (u64 (x1)) 2 ++ bytesOf (u64 (x2)) 1 ++ numsOf 5 [x3, x4, x5] ++ numsOf 5 [x6, x7, x8] ++ numsOf 5 [x9, x10, x11])) from own_mono ho (by omega)); clear ho; have hzs107 := hb107.size)
                    have hr107_0 := (hb107.block _ (lt_heap hr106_0)).trans hr106_0
                    have hr107_1 := (hb107.block _ (lt_heap hr106_1)).trans hr106_1
                    have HU107 := Lib.hid (HU106.out.trans (hb107.mono HU106.out.size))
                    refine hK.out _ _ ((hb107.block _ (lt_heap hS106c)).trans hS106c) (fun hS107c => ?_)
                    clear hK K
                    refine wpAnyH_take (i := 9) (v := ?_) rfl (by as_aux_lemma => kernel_rfl) (by as_aux_lemma => kernel_rfl) (by as_aux_lemma => kernel_rfl) (fun _ _ _ h => h) (Or.inl ⟨(by as_aux_lemma => kernel_rfl), by (intro wz hSz; go_simp; try with_reducible rfl)⟩) hS107c ?_
                    go_simp
                    refine wpAnyH_done (by as_aux_lemma => kernel_rfl) ?_ _
                    have HQ := Lib.hid (show y107.ownsRow b0 5 1 v107 (L3 ++ shapesOf S (k + 1)).length (vals (L3 ++ shapesOf S (k + 1))) by have h := HO107.out; rw [HLK.out] at h; rw [HKK.out]; simpa only [List.append_assoc, nums_cons, numsOf_nil, List.append_nil] using h)
                    go_wp2_with fail
                    go_roundw
                    case rel => exact ⟨k + 1, by omega, by go_num, hr107_0, HQ, HU107, by omega⟩
                    case measure => simp [intOf]; omega
                · have hkk : ns = k := by omega
                  subst hkk
                  obtain ⟨L4, hL4⟩ : ∃ L, L = L3 ++ shapesOf S ns := ⟨_, rfl⟩
                  have hl4 : L4.length ≤ 3203600 := by rw [hL4]; rw [List.length_append]; have : (shapesOf S ns).length ≤ 200 * 4002 := (by have := shapesOf_length S; first | exact Nat.le_trans (this k) (by omega) | exact Nat.le_trans (this ns) (by omega)); omega
                  rw [← hL4] at HO98
                  have HLL4 := Lib.hid hL4
                  clear hL4
                  have HE := HO98.out
                  rw [HLL4.out, HLL3.out, HLL2.out, HLL1.out, HLL0.out, HLL9.out] at HE
                  have HE2 := Lib.hid (show y98.ownsRow b0 5 1 u7 (sceneB a1 a2 a3 a4 a5 a6 sd r1 r2 r3 e1 e2 e3 np nt nj ns P way kn K J S).length (vals (sceneB a1 a2 a3 a4 a5 a6 sd r1 r2 r3 e1 e2 e3 np nt nj ns P way kn K J S)) by
                    unfold sceneB
                    rw [mgL4]
                    simpa only [List.append_assoc, nums_cons, numsOf_nil, List.append_nil, List.cons_append, List.nil_append] using HE)
                  have c0_13 := cell_of_row _ _ 13 _ _ _ hr98_0
                  have c0_14 := cell_of_row _ _ 14 _ _ _ hr98_0
                  have c0_15 := cell_of_row _ _ 15 _ _ _ hr98_0
                  have c0_16 := cell_of_row _ _ 16 _ _ _ hr98_0
                  simp at c0_13 c0_14 c0_15 c0_16
                  clear HE
                  obtain ⟨fa, fc, hfv⟩ := own_form HE2.out
                  obtain ⟨fn, hfn⟩ : ∃ n, n = (sceneB a1 a2 a3 a4 a5 a6 sd r1 r2 r3 e1 e2 e3 np nt nj ns P way kn K J S).length := ⟨_, rfl⟩
                  rw [← hfn] at hfv
                  subst hfv
                  go_wp2
                  exact bodyPost_ret (v := .tuple #[.slice fa fn fc, .int .i64 0]) (by simp [results, Tryz.results10, go_sem]) rfl ⟨⟨fa, fn, fc, rfl, own_mono HE2.out (by omega)⟩, HU98.out⟩

end Go.Proofs.YtfbppiamlolfpaaGreat.Jd
