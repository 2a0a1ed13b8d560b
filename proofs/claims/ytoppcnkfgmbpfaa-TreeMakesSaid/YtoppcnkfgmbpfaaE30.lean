/- Trees: the program's both of some shapes' pairs. -/
import Derived.Test.YtoppcnkfgmbpfaaE28
import Derived.Test.YtoppcnkfgmbpfaaE29
namespace Go.Proofs.Ytoppcnkfgmbpfaa.Tr
open Go.RowKit Go.Proofs.Ytoppcnkfgmbpfaa Go.Proofs.Ytoppcnkfgmbpfaa.Wa Go.Proofs.Ytoppcnkfgmbpfaa.Ve Go.Proofs.Ytoppcnkfgmbpfaa.Au Go.Proofs.Ytoppcnkfgmbpfaa.Bx
set_option linter.unusedVariables false
set_option linter.unusedSimpArgs false

theorem infoPairP : (Try.prog.info? 43).map (fun i => (i.zero, i.size, i.bytes)) = some (some (.agg #[.int .i64 0, .int .i64 0, .int .i64 0, .int .i64 0, .int .i64 0, .int .i64 0, .int .i64 0, .int .i64 0, .int .i64 0, .int .i64 0, .int .i64 0, .int .i64 0]), 12, 96) := by kernel_rfl

set_option maxHeartbeats 4000000 in
set_option maxRecDepth 100000 in
theorem both_l (PL : Nat → Int) (N : Nat) (l : List Nat) (h1 : 1 ≤ l.length) (hm : l.length ≤ 1000) (hN : N ≤ 1000) (hlt : ∀ j, j < l.length → l.getD j 0 < N) (mb gp op pc gl ol lc : Nat) (hlc : l.length ≤ lc) (nv ov : Value) (w : World) (hgp : gp < w.heap.size) (hgl : gl < w.heap.size)
    (hmb : w.heap[mb]? = some (.cells #[nv, ov, .slice (some ⟨gp, op, none⟩) N pc] 58 (0, 0)))
    (hp : ∀ j, j < N * 12 → w.cell? ⟨gp, op + j, none⟩ = some (.int .i64 (PL j))) (hl : ∀ j, j < l.length → w.cell? ⟨gl, ol + j, none⟩ = some (.int .i64 ((l.getD j 0 : Nat) : Int))) :
    Calls Try.prog 18 #[.pointer (some ⟨mb, 0, none⟩), .slice (some ⟨gl, ol, none⟩) l.length lc] w fun e w' => e = .returned (.agg #[.int .i64 (lo6 (La (pl PL l)) 0 l.length), .int .i64 (lo6 (La (pl PL l)) 1 l.length), .int .i64 (lo6 (La (pl PL l)) 2 l.length), .int .i64 (hi6 (La (pl PL l)) 0 l.length), .int .i64 (hi6 (La (pl PL l)) 1 l.length), .int .i64 (hi6 (La (pl PL l)) 2 l.length), .int .i64 (lo6 (Lb (pl PL l)) 0 l.length), .int .i64 (lo6 (Lb (pl PL l)) 1 l.length), .int .i64 (lo6 (Lb (pl PL l)) 2 l.length), .int .i64 (hi6 (Lb (pl PL l)) 0 l.length), .int .i64 (hi6 (Lb (pl PL l)) 1 l.length), .int .i64 (hi6 (Lb (pl PL l)) 2 l.length)]) ∧ Below w.heap.size w w' := by

  obtain ⟨i0, hi, hz0, hz1, hz2⟩ := info_parts infoPairP
  have HPP := Lib.hid hp
  have HLL := Lib.hid hl
  have HLT := Lib.hid hlt
  have HMB := Lib.hid hmb
  have hml := lt_heap hmb
  clear hp hl hlt hmb
  go_enter Try.func18, Try.ntmps18
  go_upto_region 1 with fail
  have hR := Au.rows1 w (.cells #[.int .i64 0, .int .i64 0, .int .i64 0, .int .i64 0, .int .i64 0, .int .i64 0, .int .i64 0, .int .i64 0, .int .i64 0, .int .i64 0, .int .i64 0, .int .i64 0] 43)
  have HUx := below_n1 w (.cells #[.int .i64 0, .int .i64 0, .int .i64 0, .int .i64 0, .int .i64 0, .int .i64 0, .int .i64 0, .int .i64 0, .int .i64 0, .int .i64 0, .int .i64 0, .int .i64 0] 43)
  obtain ⟨y0, hy0⟩ : ∃ y0, w.alloc (.cells #[.int .i64 0, .int .i64 0, .int .i64 0, .int .i64 0, .int .i64 0, .int .i64 0, .int .i64 0, .int .i64 0, .int .i64 0, .int .i64 0, .int .i64 0, .int .i64 0] 43) = y0 := ⟨_, rfl⟩
  rw [hy0] at hR HUx ⊢
  clear hy0
  have HU0 := Lib.hid HUx
  clear HUx
  have hr0_0 := hR
  clear hR
  have HR0 := Lib.hid hr0_0
  have hsw := HU0.out.size
  have hlr := lt_heap hr0_0
  have hlen : ((1 : Int) ≤ (l.length : Int)) := by omega
  obtain ⟨m, hmm⟩ : ∃ m, l.length = m + 1 := ⟨l.length - 1, by omega⟩
  rw [hmm]
  obtain ⟨cq, hcq⟩ : ∃ cq, lc = cq + 1 := ⟨lc - 1, by omega⟩
  subst hcq
  have HMM := Lib.hid hmm
  have hm1 : m + 1 ≤ 1000 := by omega
  clear hmm hlen h1 hm
  go_upto_region 3 with fail
  
  · have hm0 : m = 0 := by have := HMM.out; omega
    go_loopw [5, 7, 11] (fun v s7 i wr => ∃ k : Nat, k ≤ m ∧ i = .int .i64 k ∧ Hid (wr.ownsRow y0.heap.size 43 12 v k (flat12 (fun j => pl PL l (j + 12)) k)) ∧ Hid (Below y0.heap.size y0 wr)) (fun _ _ i _ => m - (intOf i).toNat)
    case atStart => exact ⟨0, by omega, rfl, Lib.hid (by simpa [flat12] using World.ownsRow_nil _ _ _ _), Lib.hid (Below.refl _ _)⟩
    case round =>
      obtain ⟨k, hk, rfl, HO, HB⟩ := hrel
      have hbs := HB.out.size
      by_cases hlt' : k < m
      · omega
      · have HKK := Lib.hid (show k = m by omega)
        have hnl : ¬ (k : Int) < (m : Int) := by omega
        go_upto_region 7 with fail
        obtain ⟨y5, rfl⟩ : ∃ y : World, y = wr := ⟨_, rfl⟩
        have HU5 := Lib.hid (HU0.out.trans (HB.out.mono HU0.out.size))
        have hr5_0 := (HB.out.block _ hlr).trans HR0.out
        have hr5_1 := (HB.out.block mb (by omega)).trans ((HU0.out.block mb hml).trans HMB.out)
        have hs5 := HU5.out.size
        obtain ⟨x, hx⟩ : ∃ x, x = l.getD 0 0 := ⟨_, rfl⟩
        have hxN : x < N := by rw [hx]; exact HLT.out 0 (by have := HMM.out; omega)
        have hxi : (x : Int) < N := by omega
        have c0 : y5.cell? ⟨gl, ol, none⟩ = some (.int .i64 (x : Int)) := by rw [hx]; exact (HB.out.cell (p := ⟨gl, ol, none⟩) (by show gl < y0.heap.size; omega)).trans ((HU0.out.cell (p := ⟨gl, ol, none⟩) hgl).trans (HLL.out 0 (by have := HMM.out; omega)))
        have cp : ∀ c, c < 12 → y5.cell? ⟨gp, op + (x * 12 + c), none⟩ = some (.int .i64 (PL (x * 12 + c))) := fun c hc => (HB.out.cell (p := ⟨gp, op + (x * 12 + c), none⟩) (by show gp < y0.heap.size; omega)).trans ((HU0.out.cell (p := ⟨gp, op + (x * 12 + c), none⟩) hgp).trans (HPP.out _ (by omega)))
        have cp0 : y5.cell? ⟨gp, op + x * 12, none⟩ = some (.int .i64 (PL (x * 12))) := by have := cp 0 (by omega); rw [show op + (x * 12 + 0) = op + x * 12 by omega] at this; exact this
        have cp1 : y5.cell? ⟨gp, op + x * 12 + 1, none⟩ = some (.int .i64 (PL (x * 12 + 1))) := by have := cp 1 (by omega); rw [show op + (x * 12 + 1) = op + x * 12 + 1 by omega] at this; exact this
        have cp2 : y5.cell? ⟨gp, op + x * 12 + 2, none⟩ = some (.int .i64 (PL (x * 12 + 2))) := by have := cp 2 (by omega); rw [show op + (x * 12 + 2) = op + x * 12 + 2 by omega] at this; exact this
        have cp3 : y5.cell? ⟨gp, op + x * 12 + 3, none⟩ = some (.int .i64 (PL (x * 12 + 3))) := by have := cp 3 (by omega); rw [show op + (x * 12 + 3) = op + x * 12 + 3 by omega] at this; exact this
        have cp4 : y5.cell? ⟨gp, op + x * 12 + 4, none⟩ = some (.int .i64 (PL (x * 12 + 4))) := by have := cp 4 (by omega); rw [show op + (x * 12 + 4) = op + x * 12 + 4 by omega] at this; exact this
        have cp5 : y5.cell? ⟨gp, op + x * 12 + 5, none⟩ = some (.int .i64 (PL (x * 12 + 5))) := by have := cp 5 (by omega); rw [show op + (x * 12 + 5) = op + x * 12 + 5 by omega] at this; exact this
        have cp6 : y5.cell? ⟨gp, op + x * 12 + 6, none⟩ = some (.int .i64 (PL (x * 12 + 6))) := by have := cp 6 (by omega); rw [show op + (x * 12 + 6) = op + x * 12 + 6 by omega] at this; exact this
        have cp7 : y5.cell? ⟨gp, op + x * 12 + 7, none⟩ = some (.int .i64 (PL (x * 12 + 7))) := by have := cp 7 (by omega); rw [show op + (x * 12 + 7) = op + x * 12 + 7 by omega] at this; exact this
        have cp8 : y5.cell? ⟨gp, op + x * 12 + 8, none⟩ = some (.int .i64 (PL (x * 12 + 8))) := by have := cp 8 (by omega); rw [show op + (x * 12 + 8) = op + x * 12 + 8 by omega] at this; exact this
        have cp9 : y5.cell? ⟨gp, op + x * 12 + 9, none⟩ = some (.int .i64 (PL (x * 12 + 9))) := by have := cp 9 (by omega); rw [show op + (x * 12 + 9) = op + x * 12 + 9 by omega] at this; exact this
        have cp10 : y5.cell? ⟨gp, op + x * 12 + 10, none⟩ = some (.int .i64 (PL (x * 12 + 10))) := by have := cp 10 (by omega); rw [show op + (x * 12 + 10) = op + x * 12 + 10 by omega] at this; exact this
        have cp11 : y5.cell? ⟨gp, op + x * 12 + 11, none⟩ = some (.int .i64 (PL (x * 12 + 11))) := by have := cp 11 (by omega); rw [show op + (x * 12 + 11) = op + x * 12 + 11 by omega] at this; exact this
        clear cp
        have hpx : ∀ c, c < 12 → pl PL l c = PL (x * 12 + c) := fun c hc => by have := pl_at PL l 0 c hc; rw [Nat.zero_mul, Nat.zero_add, ← hx] at this; exact this
        have hn1 : l.length - 1 = m := by have := HMM.out; omega
        have hn2 : 1 ≤ l.length := by have := HMM.out; omega
        have a0_ : foldN min (PL (x * 12)) (fun j => pl PL l (j * 12 + 12)) m = lo6 (La (pl PL l)) 0 l.length := by
          have h := next_a min (pl PL l) 0 l.length (by omega) hn2 (by simp)
          rw [hn1, show pl PL l 0 = PL (x * 12) from hpx 0 (by omega)] at h
          exact h
        have a1_ : foldN min (PL (x * 12 + 1)) (fun j => pl PL l (j * 12 + 1 + 12)) m = lo6 (La (pl PL l)) 1 l.length := by
          have h := next_a min (pl PL l) 1 l.length (by omega) hn2 (by simp)
          rw [hn1, show pl PL l 1 = PL (x * 12 + 1) from hpx 1 (by omega)] at h
          exact h
        have a2_ : foldN min (PL (x * 12 + 2)) (fun j => pl PL l (j * 12 + 2 + 12)) m = lo6 (La (pl PL l)) 2 l.length := by
          have h := next_a min (pl PL l) 2 l.length (by omega) hn2 (by simp)
          rw [hn1, show pl PL l 2 = PL (x * 12 + 2) from hpx 2 (by omega)] at h
          exact h
        have a3_ : foldN max (PL (x * 12 + 3)) (fun j => pl PL l (j * 12 + 3 + 12)) m = hi6 (La (pl PL l)) 0 l.length := by
          have h := next_a max (pl PL l) 3 l.length (by omega) hn2 (by simp)
          rw [hn1, show pl PL l 3 = PL (x * 12 + 3) from hpx 3 (by omega)] at h
          exact h
        have a4_ : foldN max (PL (x * 12 + 4)) (fun j => pl PL l (j * 12 + 4 + 12)) m = hi6 (La (pl PL l)) 1 l.length := by
          have h := next_a max (pl PL l) 4 l.length (by omega) hn2 (by simp)
          rw [hn1, show pl PL l 4 = PL (x * 12 + 4) from hpx 4 (by omega)] at h
          exact h
        have a5_ : foldN max (PL (x * 12 + 5)) (fun j => pl PL l (j * 12 + 5 + 12)) m = hi6 (La (pl PL l)) 2 l.length := by
          have h := next_a max (pl PL l) 5 l.length (by omega) hn2 (by simp)
          rw [hn1, show pl PL l 5 = PL (x * 12 + 5) from hpx 5 (by omega)] at h
          exact h
        have a6_ : foldN min (PL (x * 12 + 6)) (fun j => pl PL l (j * 12 + 6 + 12)) m = lo6 (Lb (pl PL l)) 0 l.length := by
          have h := next_b min (pl PL l) 0 l.length (by omega) hn2 (by simp)
          rw [hn1, show pl PL l (6 + 0) = PL (x * 12 + 6) from hpx 6 (by omega)] at h
          exact h
        have a7_ : foldN min (PL (x * 12 + 7)) (fun j => pl PL l (j * 12 + 7 + 12)) m = lo6 (Lb (pl PL l)) 1 l.length := by
          have h := next_b min (pl PL l) 1 l.length (by omega) hn2 (by simp)
          rw [hn1, show pl PL l (6 + 1) = PL (x * 12 + 7) from hpx 7 (by omega)] at h
          exact h
        have a8_ : foldN min (PL (x * 12 + 8)) (fun j => pl PL l (j * 12 + 8 + 12)) m = lo6 (Lb (pl PL l)) 2 l.length := by
          have h := next_b min (pl PL l) 2 l.length (by omega) hn2 (by simp)
          rw [hn1, show pl PL l (6 + 2) = PL (x * 12 + 8) from hpx 8 (by omega)] at h
          exact h
        have a9_ : foldN max (PL (x * 12 + 9)) (fun j => pl PL l (j * 12 + 9 + 12)) m = hi6 (Lb (pl PL l)) 0 l.length := by
          have h := next_b max (pl PL l) 3 l.length (by omega) hn2 (by simp)
          rw [hn1, show pl PL l (6 + 3) = PL (x * 12 + 9) from hpx 9 (by omega)] at h
          exact h
        have a10_ : foldN max (PL (x * 12 + 10)) (fun j => pl PL l (j * 12 + 10 + 12)) m = hi6 (Lb (pl PL l)) 1 l.length := by
          have h := next_b max (pl PL l) 4 l.length (by omega) hn2 (by simp)
          rw [hn1, show pl PL l (6 + 4) = PL (x * 12 + 10) from hpx 10 (by omega)] at h
          exact h
        have a11_ : foldN max (PL (x * 12 + 11)) (fun j => pl PL l (j * 12 + 11 + 12)) m = hi6 (Lb (pl PL l)) 2 l.length := by
          have h := next_b max (pl PL l) 5 l.length (by omega) hn2 (by simp)
          rw [hn1, show pl PL l (6 + 5) = PL (x * 12 + 11) from hpx 11 (by omega)] at h
          exact h
        have HBT := Lib.hid (fun (W : World) (hW : RowU 12 W u5 m (fun j => pl PL l (j + 12))) => show Calls Try.prog 24 #[.agg #[.int .i64 (PL (x * 12)), .int .i64 (PL (x * 12 + 1)), .int .i64 (PL (x * 12 + 2)), .int .i64 (PL (x * 12 + 3)), .int .i64 (PL (x * 12 + 4)), .int .i64 (PL (x * 12 + 5)), .int .i64 (PL (x * 12 + 6)), .int .i64 (PL (x * 12 + 7)), .int .i64 (PL (x * 12 + 8)), .int .i64 (PL (x * 12 + 9)), .int .i64 (PL (x * 12 + 10)), .int .i64 (PL (x * 12 + 11))], u5] W fun e w' => e = .returned (.agg #[.int .i64 (lo6 (La (pl PL l)) 0 l.length), .int .i64 (lo6 (La (pl PL l)) 1 l.length), .int .i64 (lo6 (La (pl PL l)) 2 l.length), .int .i64 (hi6 (La (pl PL l)) 0 l.length), .int .i64 (hi6 (La (pl PL l)) 1 l.length), .int .i64 (hi6 (La (pl PL l)) 2 l.length), .int .i64 (lo6 (Lb (pl PL l)) 0 l.length), .int .i64 (lo6 (Lb (pl PL l)) 1 l.length), .int .i64 (lo6 (Lb (pl PL l)) 2 l.length), .int .i64 (hi6 (Lb (pl PL l)) 0 l.length), .int .i64 (hi6 (Lb (pl PL l)) 1 l.length), .int .i64 (hi6 (Lb (pl PL l)) 2 l.length)]) ∧ Below W.heap.size W w' from by
          refine (both_any (PL (x * 12)) (PL (x * 12 + 1)) (PL (x * 12 + 2)) (PL (x * 12 + 3)) (PL (x * 12 + 4)) (PL (x * 12 + 5)) (PL (x * 12 + 6)) (PL (x * 12 + 7)) (PL (x * 12 + 8)) (PL (x * 12 + 9)) (PL (x * 12 + 10)) (PL (x * 12 + 11)) u5 m (fun j => pl PL l (j + 12)) (by omega) W hW).mono ?_
          rintro e w' ⟨rfl, hb⟩
          refine ⟨?_, hb⟩
          show Ending.returned (.agg #[.int .i64 (foldN min (PL (x * 12)) (fun j => pl PL l (j * 12 + 12)) m), .int .i64 (foldN min (PL (x * 12 + 1)) (fun j => pl PL l (j * 12 + 1 + 12)) m), .int .i64 (foldN min (PL (x * 12 + 2)) (fun j => pl PL l (j * 12 + 2 + 12)) m), .int .i64 (foldN max (PL (x * 12 + 3)) (fun j => pl PL l (j * 12 + 3 + 12)) m), .int .i64 (foldN max (PL (x * 12 + 4)) (fun j => pl PL l (j * 12 + 4 + 12)) m), .int .i64 (foldN max (PL (x * 12 + 5)) (fun j => pl PL l (j * 12 + 5 + 12)) m), .int .i64 (foldN min (PL (x * 12 + 6)) (fun j => pl PL l (j * 12 + 6 + 12)) m), .int .i64 (foldN min (PL (x * 12 + 7)) (fun j => pl PL l (j * 12 + 7 + 12)) m), .int .i64 (foldN min (PL (x * 12 + 8)) (fun j => pl PL l (j * 12 + 8 + 12)) m), .int .i64 (foldN max (PL (x * 12 + 9)) (fun j => pl PL l (j * 12 + 9 + 12)) m), .int .i64 (foldN max (PL (x * 12 + 10)) (fun j => pl PL l (j * 12 + 10 + 12)) m), .int .i64 (foldN max (PL (x * 12 + 11)) (fun j => pl PL l (j * 12 + 11 + 12)) m)]) = _
          rw [a0_, a1_, a2_, a3_, a4_, a5_, a6_, a7_, a8_, a9_, a10_, a11_])
        clear a0_ a1_ a2_ a3_ a4_ a5_ a6_ a7_ a8_ a9_ a10_ a11_ hpx hn1 hn2
        have HRU5 := Lib.hid (show RowU 12 y5 u5 m (fun j => pl PL l (j + 12)) from by
          have ho := HO.out
          rw [HKK.out] at ho
          have ho2 := ho
          rcases ho.2 with ⟨hv, h0⟩ | ⟨gb, cap, cur, hv, hb, h3, -⟩
          · exact .inl ⟨hv, h0⟩
          · rw [hv] at ho2
            exact .inr ⟨gb, 0, cap, hv, lt_heap h3, fun j hj => by rw [Nat.zero_add]; exact (ho2.cellAt j (by omega)).trans (flat12_at _ _ _ hj)⟩)
        clear hx hlt' hk
        refine wp_region_held_drew (S := fun y => y.heap[mb]? = some (.cells #[nv, ov, .slice (some ⟨gp, op, none⟩) N pc] 58 (0, 0)) ∧ y.cell? ⟨gl, ol, none⟩ = some (.int .i64 (x : Int)) ∧ y.cell? ⟨gp, op + x * 12, none⟩ = some (.int .i64 (PL (x * 12))) ∧ y.cell? ⟨gp, op + x * 12 + 1, none⟩ = some (.int .i64 (PL (x * 12 + 1))) ∧ y.cell? ⟨gp, op + x * 12 + 2, none⟩ = some (.int .i64 (PL (x * 12 + 2))) ∧ y.cell? ⟨gp, op + x * 12 + 3, none⟩ = some (.int .i64 (PL (x * 12 + 3))) ∧ y.cell? ⟨gp, op + x * 12 + 4, none⟩ = some (.int .i64 (PL (x * 12 + 4))) ∧ y.cell? ⟨gp, op + x * 12 + 5, none⟩ = some (.int .i64 (PL (x * 12 + 5))) ∧ y.cell? ⟨gp, op + x * 12 + 6, none⟩ = some (.int .i64 (PL (x * 12 + 6))) ∧ y.cell? ⟨gp, op + x * 12 + 7, none⟩ = some (.int .i64 (PL (x * 12 + 7))) ∧ y.cell? ⟨gp, op + x * 12 + 8, none⟩ = some (.int .i64 (PL (x * 12 + 8))) ∧ y.cell? ⟨gp, op + x * 12 + 9, none⟩ = some (.int .i64 (PL (x * 12 + 9))) ∧ y.cell? ⟨gp, op + x * 12 + 10, none⟩ = some (.int .i64 (PL (x * 12 + 10))) ∧ y.cell? ⟨gp, op + x * 12 + 11, none⟩ = some (.int .i64 (PL (x * 12 + 11)))) (by kernel_rfl) (⟨hr5_1, c0, cp0, cp1, cp2, cp3, cp4, cp5, cp6, cp7, cp8, cp9, cp10, cp11⟩) (fun hS0 => ?_)
        obtain ⟨y6, hy6⟩ : ∃ y, y5.drew = y := ⟨_, rfl⟩
        have HU6 := Lib.hid (show Below w.heap.size w y6 by rw [← hy6]; exact HU5.out.drew)
        have hr6_0 : y6.heap[w.heap.size]? = some (.cells #[.int .i64 0, .int .i64 0, .int .i64 0, .int .i64 0, .int .i64 0, .int .i64 0, .int .i64 0, .int .i64 0, .int .i64 0, .int .i64 0, .int .i64 0, .int .i64 0] 43 (0, 0)) := by rw [← hy6]; exact hr5_0
        have hr6_1 : y6.heap[mb]? = some (.cells #[nv, ov, .slice (some ⟨gp, op, none⟩) N pc] 58 (0, 0)) := by rw [← hy6]; exact hr5_1
        have HRU6 := Lib.hid (HRU5.out.on (show Below y5.heap.size y5 y6 by rw [← hy6]; exact (Below.refl _ _).drew))
        have hs6 : y5.heap.size ≤ y6.heap.size := by rw [← hy6]; exact (Below.refl y5.heap.size y5).drew.size
        rw [hy6] at hS0 ⊢
        clear hy6
        refine wpAnyH_take (i := 0) (v := ?_) rfl (by kernel_rfl) (by kernel_rfl) (by kernel_rfl) (fun _ _ _ h => h) (Or.inl ⟨by kernel_rfl, by (intro wz hSz; go_simp; try with_reducible rfl)⟩) hS0 ?_
        go_simp
        refine wpAnyH_take (i := 1) (v := ?_) rfl (by kernel_rfl) (by kernel_rfl) (by kernel_rfl) (fun _ _ _ h => h) (Or.inl ⟨by kernel_rfl, by (intro wz hSz; go_simp; try with_reducible rfl)⟩) hS0 ?_
        go_simp
        refine wpAnyH_take (i := 2) (v := ?_) rfl (by kernel_rfl) (by kernel_rfl) (by kernel_rfl) (fun _ _ _ h => h) (Or.inl ⟨by kernel_rfl, by (intro wz hSz; go_simp; try with_reducible rfl)⟩) hS0 ?_
        go_simp
        refine wpAnyH_take (i := 3) (v := ?_) rfl (by kernel_rfl) (by kernel_rfl) (by kernel_rfl) (fun _ _ _ h => h) (Or.inl ⟨by kernel_rfl, by (intro wz hSz; have c1_0 := cell_of_row _ _ 0 _ _ _ hSz.1; have c1_1 := cell_of_row _ _ 1 _ _ _ hSz.1; have c1_2 := cell_of_row _ _ 2 _ _ _ hSz.1; simp at c1_0 c1_1 c1_2; have c0z := hSz.2.1; have cp0z := hSz.2.2.1; have cp1z := hSz.2.2.2.1; have cp2z := hSz.2.2.2.2.1; have cp3z := hSz.2.2.2.2.2.1; have cp4z := hSz.2.2.2.2.2.2.1; have cp5z := hSz.2.2.2.2.2.2.2.1; have cp6z := hSz.2.2.2.2.2.2.2.2.1; have cp7z := hSz.2.2.2.2.2.2.2.2.2.1; have cp8z := hSz.2.2.2.2.2.2.2.2.2.2.1; have cp9z := hSz.2.2.2.2.2.2.2.2.2.2.2.1; have cp10z := hSz.2.2.2.2.2.2.2.2.2.2.2.2.1; have cp11z := hSz.2.2.2.2.2.2.2.2.2.2.2.2.2; go_simp; try with_reducible rfl)⟩) hS0 ?_
        go_simp
        refine wpAnyH_take (i := 4) (v := ?_) rfl (by kernel_rfl) (by kernel_rfl) (by kernel_rfl) (fun _ _ _ h => h) (Or.inl ⟨by kernel_rfl, by (intro wz hSz; go_simp; try with_reducible rfl)⟩) hS0 ?_
        go_simp
        refine wpAnyH_take (i := 5) (v := ?_) rfl (by kernel_rfl) (by kernel_rfl) (by kernel_rfl) (fun _ _ _ h => h) (Or.inl ⟨by kernel_rfl, by (intro wz hSz; go_simp; try with_reducible rfl)⟩) hS0 ?_
        go_simp
        refine wpAnyH_take (i := 6) (v := ?_) rfl (by kernel_rfl) (by kernel_rfl) (by kernel_rfl) (fun _ _ _ h => h) (Or.inl ⟨by kernel_rfl, by (intro wz hSz; have c1_0 := cell_of_row _ _ 0 _ _ _ hSz.1; have c1_1 := cell_of_row _ _ 1 _ _ _ hSz.1; have c1_2 := cell_of_row _ _ 2 _ _ _ hSz.1; simp at c1_0 c1_1 c1_2; have c0z := hSz.2.1; have cp0z := hSz.2.2.1; have cp1z := hSz.2.2.2.1; have cp2z := hSz.2.2.2.2.1; have cp3z := hSz.2.2.2.2.2.1; have cp4z := hSz.2.2.2.2.2.2.1; have cp5z := hSz.2.2.2.2.2.2.2.1; have cp6z := hSz.2.2.2.2.2.2.2.2.1; have cp7z := hSz.2.2.2.2.2.2.2.2.2.1; have cp8z := hSz.2.2.2.2.2.2.2.2.2.2.1; have cp9z := hSz.2.2.2.2.2.2.2.2.2.2.2.1; have cp10z := hSz.2.2.2.2.2.2.2.2.2.2.2.2.1; have cp11z := hSz.2.2.2.2.2.2.2.2.2.2.2.2.2; go_simp; try with_reducible rfl)⟩) hS0 ?_
        go_simp
        refine wpAnyH_take (i := 7) (v := ?_) rfl (by kernel_rfl) (by kernel_rfl) (by kernel_rfl) (fun _ _ _ h => h) (Or.inl ⟨by kernel_rfl, by (intro wz hSz; go_simp; try with_reducible rfl)⟩) hS0 ?_
        go_simp
        refine wpAnyH_take (i := 8) (v := ?_) rfl (by kernel_rfl) (by kernel_rfl) (by kernel_rfl) (fun _ _ _ h => h) (Or.inl ⟨by kernel_rfl, by (intro wz hSz; have c1_0 := cell_of_row _ _ 0 _ _ _ hSz.1; have c1_1 := cell_of_row _ _ 1 _ _ _ hSz.1; have c1_2 := cell_of_row _ _ 2 _ _ _ hSz.1; simp at c1_0 c1_1 c1_2; have c0z := hSz.2.1; have cp0z := hSz.2.2.1; have cp1z := hSz.2.2.2.1; have cp2z := hSz.2.2.2.2.1; have cp3z := hSz.2.2.2.2.2.1; have cp4z := hSz.2.2.2.2.2.2.1; have cp5z := hSz.2.2.2.2.2.2.2.1; have cp6z := hSz.2.2.2.2.2.2.2.2.1; have cp7z := hSz.2.2.2.2.2.2.2.2.2.1; have cp8z := hSz.2.2.2.2.2.2.2.2.2.2.1; have cp9z := hSz.2.2.2.2.2.2.2.2.2.2.2.1; have cp10z := hSz.2.2.2.2.2.2.2.2.2.2.2.2.1; have cp11z := hSz.2.2.2.2.2.2.2.2.2.2.2.2.2; go_simp; try with_reducible rfl)⟩) hS0 ?_
        go_simp
        refine wpAnyH_take (i := 9) (v := ?_) rfl (by kernel_rfl) (by kernel_rfl) (by kernel_rfl) (fun _ _ _ h => h) (Or.inl ⟨by kernel_rfl, by (intro wz hSz; go_simp; try with_reducible rfl)⟩) hS0 ?_
        go_simp
        refine wpAnyH_ready (rs := [10]) (by kernel_rfl) (by simp) ?_
        refine AllReadyH.cons rfl (fun K hK => ?_) AllReadyH.nil
        go_simp
        go_wp2_with (go_at_call 24; refine (HBT.out _ HRU6.out).mono ?_; rintro e y7 ⟨rfl, hb7⟩)
        have hr7_0 := (hb7.block _ (lt_heap hr6_0)).trans hr6_0
        have hr7_1 := (hb7.block _ (lt_heap hr6_1)).trans hr6_1
        have HU7 := Lib.hid (HU6.out.trans (hb7.mono HU6.out.size))
        refine hK.out _ _ (⟨(hb7.block _ (lt_heap hS0.1)).trans hS0.1, (hb7.cell (p := ⟨gl, ol, none⟩) (by show gl < _; omega)).trans hS0.2.1, (hb7.cell (p := ⟨gp, op + x * 12, none⟩) (by show gp < _; omega)).trans hS0.2.2.1, (hb7.cell (p := ⟨gp, op + x * 12 + 1, none⟩) (by show gp < _; omega)).trans hS0.2.2.2.1, (hb7.cell (p := ⟨gp, op + x * 12 + 2, none⟩) (by show gp < _; omega)).trans hS0.2.2.2.2.1, (hb7.cell (p := ⟨gp, op + x * 12 + 3, none⟩) (by show gp < _; omega)).trans hS0.2.2.2.2.2.1, (hb7.cell (p := ⟨gp, op + x * 12 + 4, none⟩) (by show gp < _; omega)).trans hS0.2.2.2.2.2.2.1, (hb7.cell (p := ⟨gp, op + x * 12 + 5, none⟩) (by show gp < _; omega)).trans hS0.2.2.2.2.2.2.2.1, (hb7.cell (p := ⟨gp, op + x * 12 + 6, none⟩) (by show gp < _; omega)).trans hS0.2.2.2.2.2.2.2.2.1, (hb7.cell (p := ⟨gp, op + x * 12 + 7, none⟩) (by show gp < _; omega)).trans hS0.2.2.2.2.2.2.2.2.2.1, (hb7.cell (p := ⟨gp, op + x * 12 + 8, none⟩) (by show gp < _; omega)).trans hS0.2.2.2.2.2.2.2.2.2.2.1, (hb7.cell (p := ⟨gp, op + x * 12 + 9, none⟩) (by show gp < _; omega)).trans hS0.2.2.2.2.2.2.2.2.2.2.2.1, (hb7.cell (p := ⟨gp, op + x * 12 + 10, none⟩) (by show gp < _; omega)).trans hS0.2.2.2.2.2.2.2.2.2.2.2.2.1, (hb7.cell (p := ⟨gp, op + x * 12 + 11, none⟩) (by show gp < _; omega)).trans hS0.2.2.2.2.2.2.2.2.2.2.2.2.2⟩) (fun hS7c => ?_)
        clear hK K
        refine wpAnyH_ready (rs := [11]) (by kernel_rfl) (by simp) ?_
        refine AllReadyH.cons rfl (fun K hK => ?_) AllReadyH.nil
        refine step_store_row rfl 43 (.tmp 4) (.tmp 36) rfl #[.int .i64 0, .int .i64 0, .int .i64 0, .int .i64 0, .int .i64 0, .int .i64 0, .int .i64 0, .int .i64 0, .int .i64 0, .int .i64 0, .int .i64 0, .int .i64 0] #[.int .i64 (lo6 (La (pl PL l)) 0 l.length), .int .i64 (lo6 (La (pl PL l)) 1 l.length), .int .i64 (lo6 (La (pl PL l)) 2 l.length), .int .i64 (hi6 (La (pl PL l)) 0 l.length), .int .i64 (hi6 (La (pl PL l)) 1 l.length), .int .i64 (hi6 (La (pl PL l)) 2 l.length), .int .i64 (lo6 (Lb (pl PL l)) 0 l.length), .int .i64 (lo6 (Lb (pl PL l)) 1 l.length), .int .i64 (lo6 (Lb (pl PL l)) 2 l.length), .int .i64 (hi6 (Lb (pl PL l)) 0 l.length), .int .i64 (hi6 (Lb (pl PL l)) 1 l.length), .int .i64 (hi6 (Lb (pl PL l)) 2 l.length)] _ 43 hr7_0 rfl (by first | rfl | (go_simp; done) | (go_simp; rfl)) (by kernel_rfl) rfl (by simp [Value.oneCell']) ?_
        have hN := setRow_heap _ (w.heap.size) _ #[.int .i64 (lo6 (La (pl PL l)) 0 l.length), .int .i64 (lo6 (La (pl PL l)) 1 l.length), .int .i64 (lo6 (La (pl PL l)) 2 l.length), .int .i64 (hi6 (La (pl PL l)) 0 l.length), .int .i64 (hi6 (La (pl PL l)) 1 l.length), .int .i64 (hi6 (La (pl PL l)) 2 l.length), .int .i64 (lo6 (Lb (pl PL l)) 0 l.length), .int .i64 (lo6 (Lb (pl PL l)) 1 l.length), .int .i64 (lo6 (Lb (pl PL l)) 2 l.length), .int .i64 (hi6 (Lb (pl PL l)) 0 l.length), .int .i64 (hi6 (Lb (pl PL l)) 1 l.length), .int .i64 (hi6 (Lb (pl PL l)) 2 l.length)] _ _ hr7_0
        have hsz := HU7.out.size
        have HUx := below_setRow (g := w.heap.size) HU7.out (by first | omega | (simp at *; omega)) #[.int .i64 (lo6 (La (pl PL l)) 0 l.length), .int .i64 (lo6 (La (pl PL l)) 1 l.length), .int .i64 (lo6 (La (pl PL l)) 2 l.length), .int .i64 (hi6 (La (pl PL l)) 0 l.length), .int .i64 (hi6 (La (pl PL l)) 1 l.length), .int .i64 (hi6 (La (pl PL l)) 2 l.length), .int .i64 (lo6 (Lb (pl PL l)) 0 l.length), .int .i64 (lo6 (Lb (pl PL l)) 1 l.length), .int .i64 (lo6 (Lb (pl PL l)) 2 l.length), .int .i64 (hi6 (Lb (pl PL l)) 0 l.length), .int .i64 (hi6 (Lb (pl PL l)) 1 l.length), .int .i64 (hi6 (Lb (pl PL l)) 2 l.length)]
        obtain ⟨y8, hy8⟩ : ∃ y, y7.setRow (w.heap.size) #[.int .i64 (lo6 (La (pl PL l)) 0 l.length), .int .i64 (lo6 (La (pl PL l)) 1 l.length), .int .i64 (lo6 (La (pl PL l)) 2 l.length), .int .i64 (hi6 (La (pl PL l)) 0 l.length), .int .i64 (hi6 (La (pl PL l)) 1 l.length), .int .i64 (hi6 (La (pl PL l)) 2 l.length), .int .i64 (lo6 (Lb (pl PL l)) 0 l.length), .int .i64 (lo6 (Lb (pl PL l)) 1 l.length), .int .i64 (lo6 (Lb (pl PL l)) 2 l.length), .int .i64 (hi6 (Lb (pl PL l)) 0 l.length), .int .i64 (hi6 (Lb (pl PL l)) 1 l.length), .int .i64 (hi6 (Lb (pl PL l)) 2 l.length)] = y := ⟨_, rfl⟩
        have hO : ∀ k, k ≠ w.heap.size → y8.heap[k]? = y7.heap[k]? := fun k hk => by rw [← hy8]; exact setRow_other _ _ _ _ hk
        rw [hy8] at hN HUx ⊢
        clear hy8
        have HU8 := Lib.hid HUx
        clear HUx
        have hr8_0 := hN
        have hr8_1 := (hO _ (by omega)).trans hr7_1
        clear hN
        refine hK.out _ _ (⟨(hO _ (by omega)).trans hS7c.1, (show y8.cell? ⟨gl, ol, none⟩ = y7.cell? ⟨gl, ol, none⟩ from World.cell?_of_block (w := y7) (hO gl (by omega))).trans hS7c.2.1, (show y8.cell? ⟨gp, op + x * 12, none⟩ = y7.cell? ⟨gp, op + x * 12, none⟩ from World.cell?_of_block (w := y7) (hO gp (by omega))).trans hS7c.2.2.1, (show y8.cell? ⟨gp, op + x * 12 + 1, none⟩ = y7.cell? ⟨gp, op + x * 12 + 1, none⟩ from World.cell?_of_block (w := y7) (hO gp (by omega))).trans hS7c.2.2.2.1, (show y8.cell? ⟨gp, op + x * 12 + 2, none⟩ = y7.cell? ⟨gp, op + x * 12 + 2, none⟩ from World.cell?_of_block (w := y7) (hO gp (by omega))).trans hS7c.2.2.2.2.1, (show y8.cell? ⟨gp, op + x * 12 + 3, none⟩ = y7.cell? ⟨gp, op + x * 12 + 3, none⟩ from World.cell?_of_block (w := y7) (hO gp (by omega))).trans hS7c.2.2.2.2.2.1, (show y8.cell? ⟨gp, op + x * 12 + 4, none⟩ = y7.cell? ⟨gp, op + x * 12 + 4, none⟩ from World.cell?_of_block (w := y7) (hO gp (by omega))).trans hS7c.2.2.2.2.2.2.1, (show y8.cell? ⟨gp, op + x * 12 + 5, none⟩ = y7.cell? ⟨gp, op + x * 12 + 5, none⟩ from World.cell?_of_block (w := y7) (hO gp (by omega))).trans hS7c.2.2.2.2.2.2.2.1, (show y8.cell? ⟨gp, op + x * 12 + 6, none⟩ = y7.cell? ⟨gp, op + x * 12 + 6, none⟩ from World.cell?_of_block (w := y7) (hO gp (by omega))).trans hS7c.2.2.2.2.2.2.2.2.1, (show y8.cell? ⟨gp, op + x * 12 + 7, none⟩ = y7.cell? ⟨gp, op + x * 12 + 7, none⟩ from World.cell?_of_block (w := y7) (hO gp (by omega))).trans hS7c.2.2.2.2.2.2.2.2.2.1, (show y8.cell? ⟨gp, op + x * 12 + 8, none⟩ = y7.cell? ⟨gp, op + x * 12 + 8, none⟩ from World.cell?_of_block (w := y7) (hO gp (by omega))).trans hS7c.2.2.2.2.2.2.2.2.2.2.1, (show y8.cell? ⟨gp, op + x * 12 + 9, none⟩ = y7.cell? ⟨gp, op + x * 12 + 9, none⟩ from World.cell?_of_block (w := y7) (hO gp (by omega))).trans hS7c.2.2.2.2.2.2.2.2.2.2.2.1, (show y8.cell? ⟨gp, op + x * 12 + 10, none⟩ = y7.cell? ⟨gp, op + x * 12 + 10, none⟩ from World.cell?_of_block (w := y7) (hO gp (by omega))).trans hS7c.2.2.2.2.2.2.2.2.2.2.2.2.1, (show y8.cell? ⟨gp, op + x * 12 + 11, none⟩ = y7.cell? ⟨gp, op + x * 12 + 11, none⟩ from World.cell?_of_block (w := y7) (hO gp (by omega))).trans hS7c.2.2.2.2.2.2.2.2.2.2.2.2.2⟩) (fun hS8s => ?_)
        clear hK K
        refine wpAnyH_done (by kernel_rfl) ?_ _
        have c0_0 := cell_of_row _ _ 0 _ _ _ hr8_0
        have c0_1 := cell_of_row _ _ 1 _ _ _ hr8_0
        have c0_2 := cell_of_row _ _ 2 _ _ _ hr8_0
        have c0_3 := cell_of_row _ _ 3 _ _ _ hr8_0
        have c0_4 := cell_of_row _ _ 4 _ _ _ hr8_0
        have c0_5 := cell_of_row _ _ 5 _ _ _ hr8_0
        have c0_6 := cell_of_row _ _ 6 _ _ _ hr8_0
        have c0_7 := cell_of_row _ _ 7 _ _ _ hr8_0
        have c0_8 := cell_of_row _ _ 8 _ _ _ hr8_0
        have c0_9 := cell_of_row _ _ 9 _ _ _ hr8_0
        have c0_10 := cell_of_row _ _ 10 _ _ _ hr8_0
        have c0_11 := cell_of_row _ _ 11 _ _ _ hr8_0
        simp at c0_0 c0_1 c0_2 c0_3 c0_4 c0_5 c0_6 c0_7 c0_8 c0_9 c0_10 c0_11
        go_wp2
        exact bodyPost_ret (v := .agg #[.int .i64 (lo6 (La (pl PL l)) 0 l.length), .int .i64 (lo6 (La (pl PL l)) 1 l.length), .int .i64 (lo6 (La (pl PL l)) 2 l.length), .int .i64 (hi6 (La (pl PL l)) 0 l.length), .int .i64 (hi6 (La (pl PL l)) 1 l.length), .int .i64 (hi6 (La (pl PL l)) 2 l.length), .int .i64 (lo6 (Lb (pl PL l)) 0 l.length), .int .i64 (lo6 (Lb (pl PL l)) 1 l.length), .int .i64 (lo6 (Lb (pl PL l)) 2 l.length), .int .i64 (hi6 (Lb (pl PL l)) 0 l.length), .int .i64 (hi6 (Lb (pl PL l)) 1 l.length), .int .i64 (hi6 (Lb (pl PL l)) 2 l.length)]) (by simp [results, Try.results18, go_sem, c0_0, c0_1, c0_2, c0_3, c0_4, c0_5, c0_6, c0_7, c0_8, c0_9, c0_10, c0_11]) rfl ⟨by rw [HMM.out], HU8.out⟩
  · skip
    go_loopw [5, 7, 11] (fun v s7 i wr => ∃ k : Nat, k ≤ m ∧ i = .int .i64 k ∧ Hid (wr.ownsRow y0.heap.size 43 12 v k (flat12 (fun j => pl PL l (j + 12)) k)) ∧ Hid (Below y0.heap.size y0 wr)) (fun _ _ i _ => m - (intOf i).toNat)
    case atStart => exact ⟨0, by omega, rfl, Lib.hid (by simpa [flat12] using World.ownsRow_nil _ _ _ _), Lib.hid (Below.refl _ _)⟩
    case round =>
      obtain ⟨k, hk, rfl, HO, HB⟩ := hrel
      have hbs := HB.out.size
      by_cases hlt' : k < m
      · have hki : (k : Int) < m := by omega
        obtain ⟨x, hx⟩ : ∃ x, x = l.getD (k + 1) 0 := ⟨_, rfl⟩
        have hxN : x < N := by rw [hx]; exact HLT.out (k + 1) (by have := HMM.out; omega)
        have hxi : (x : Int) < N := by omega
        have cl : wr.cell? ⟨gl, ol + 1 + k, none⟩ = some (.int .i64 (x : Int)) := by rw [hx, show ol + 1 + k = ol + (k + 1) by omega]; exact (HB.out.cell (p := ⟨gl, ol + (k + 1), none⟩) (by show gl < y0.heap.size; omega)).trans ((HU0.out.cell (p := ⟨gl, ol + (k + 1), none⟩) hgl).trans (HLL.out (k + 1) (by have := HMM.out; omega)))
        have HX := Lib.hid hx
        clear hx
        have hmr := (HB.out.block mb (by omega)).trans ((HU0.out.block mb hml).trans HMB.out)
        have cm := cell_of_row _ _ 2 _ _ _ hmr
        simp at cm
        clear hmr
        have cp : ∀ c, c < 12 → wr.cell? ⟨gp, op + (x * 12 + c), none⟩ = some (.int .i64 (PL (x * 12 + c))) := fun c hc => (HB.out.cell (p := ⟨gp, op + (x * 12 + c), none⟩) (by show gp < y0.heap.size; omega)).trans ((HU0.out.cell (p := ⟨gp, op + (x * 12 + c), none⟩) hgp).trans (HPP.out _ (by omega)))
        have cp0 : wr.cell? ⟨gp, op + x * 12, none⟩ = some (.int .i64 (PL (x * 12))) := by have := cp 0 (by omega); rw [show op + (x * 12 + 0) = op + x * 12 by omega] at this; exact this
        have cp1 : wr.cell? ⟨gp, op + x * 12 + 1, none⟩ = some (.int .i64 (PL (x * 12 + 1))) := by have := cp 1 (by omega); rw [show op + (x * 12 + 1) = op + x * 12 + 1 by omega] at this; exact this
        have cp2 : wr.cell? ⟨gp, op + x * 12 + 2, none⟩ = some (.int .i64 (PL (x * 12 + 2))) := by have := cp 2 (by omega); rw [show op + (x * 12 + 2) = op + x * 12 + 2 by omega] at this; exact this
        have cp3 : wr.cell? ⟨gp, op + x * 12 + 3, none⟩ = some (.int .i64 (PL (x * 12 + 3))) := by have := cp 3 (by omega); rw [show op + (x * 12 + 3) = op + x * 12 + 3 by omega] at this; exact this
        have cp4 : wr.cell? ⟨gp, op + x * 12 + 4, none⟩ = some (.int .i64 (PL (x * 12 + 4))) := by have := cp 4 (by omega); rw [show op + (x * 12 + 4) = op + x * 12 + 4 by omega] at this; exact this
        have cp5 : wr.cell? ⟨gp, op + x * 12 + 5, none⟩ = some (.int .i64 (PL (x * 12 + 5))) := by have := cp 5 (by omega); rw [show op + (x * 12 + 5) = op + x * 12 + 5 by omega] at this; exact this
        have cp6 : wr.cell? ⟨gp, op + x * 12 + 6, none⟩ = some (.int .i64 (PL (x * 12 + 6))) := by have := cp 6 (by omega); rw [show op + (x * 12 + 6) = op + x * 12 + 6 by omega] at this; exact this
        have cp7 : wr.cell? ⟨gp, op + x * 12 + 7, none⟩ = some (.int .i64 (PL (x * 12 + 7))) := by have := cp 7 (by omega); rw [show op + (x * 12 + 7) = op + x * 12 + 7 by omega] at this; exact this
        have cp8 : wr.cell? ⟨gp, op + x * 12 + 8, none⟩ = some (.int .i64 (PL (x * 12 + 8))) := by have := cp 8 (by omega); rw [show op + (x * 12 + 8) = op + x * 12 + 8 by omega] at this; exact this
        have cp9 : wr.cell? ⟨gp, op + x * 12 + 9, none⟩ = some (.int .i64 (PL (x * 12 + 9))) := by have := cp 9 (by omega); rw [show op + (x * 12 + 9) = op + x * 12 + 9 by omega] at this; exact this
        have cp10 : wr.cell? ⟨gp, op + x * 12 + 10, none⟩ = some (.int .i64 (PL (x * 12 + 10))) := by have := cp 10 (by omega); rw [show op + (x * 12 + 10) = op + x * 12 + 10 by omega] at this; exact this
        have cp11 : wr.cell? ⟨gp, op + x * 12 + 11, none⟩ = some (.int .i64 (PL (x * 12 + 11))) := by have := cp 11 (by omega); rw [show op + (x * 12 + 11) = op + x * 12 + 11 by omega] at this; exact this
        clear cp
        have HI := Lib.hid (HO.out.alloc (.cells #[.int .i64 (PL (x * 12)), .int .i64 (PL (x * 12 + 1)), .int .i64 (PL (x * 12 + 2)), .int .i64 (PL (x * 12 + 3)), .int .i64 (PL (x * 12 + 4)), .int .i64 (PL (x * 12 + 5)), .int .i64 (PL (x * 12 + 6)), .int .i64 (PL (x * 12 + 7)), .int .i64 (PL (x * 12 + 8)), .int .i64 (PL (x * 12 + 9)), .int .i64 (PL (x * 12 + 10)), .int .i64 (PL (x * 12 + 11))] 43))
        have hx1 : ∀ j u, ([.int .i64 (PL (x * 12)), .int .i64 (PL (x * 12 + 1)), .int .i64 (PL (x * 12 + 2)), .int .i64 (PL (x * 12 + 3)), .int .i64 (PL (x * 12 + 4)), .int .i64 (PL (x * 12 + 5)), .int .i64 (PL (x * 12 + 6)), .int .i64 (PL (x * 12 + 7)), .int .i64 (PL (x * 12 + 8)), .int .i64 (PL (x * 12 + 9)), .int .i64 (PL (x * 12 + 10)), .int .i64 (PL (x * 12 + 11))] : List Value)[j]? = some u → (wr.alloc (.cells #[.int .i64 (PL (x * 12)), .int .i64 (PL (x * 12 + 1)), .int .i64 (PL (x * 12 + 2)), .int .i64 (PL (x * 12 + 3)), .int .i64 (PL (x * 12 + 4)), .int .i64 (PL (x * 12 + 5)), .int .i64 (PL (x * 12 + 6)), .int .i64 (PL (x * 12 + 7)), .int .i64 (PL (x * 12 + 8)), .int .i64 (PL (x * 12 + 9)), .int .i64 (PL (x * 12 + 10)), .int .i64 (PL (x * 12 + 11))] 43)).cell? ((⟨wr.heap.size, 0, none⟩ : Addr).add j) = some u := by
          intro j u hj
          match j, hj with
          | 0, hj => simp at hj; subst hj; simp [Addr.add]
          | 1, hj => simp at hj; subst hj; simp [Addr.add]
          | 2, hj => simp at hj; subst hj; simp [Addr.add]
          | 3, hj => simp at hj; subst hj; simp [Addr.add]
          | 4, hj => simp at hj; subst hj; simp [Addr.add]
          | 5, hj => simp at hj; subst hj; simp [Addr.add]
          | 6, hj => simp at hj; subst hj; simp [Addr.add]
          | 7, hj => simp at hj; subst hj; simp [Addr.add]
          | 8, hj => simp at hj; subst hj; simp [Addr.add]
          | 9, hj => simp at hj; subst hj; simp [Addr.add]
          | 10, hj => simp at hj; subst hj; simp [Addr.add]
          | 11, hj => simp at hj; subst hj; simp [Addr.add]
        have HX1 := Lib.hid hx1
        clear hx1
        have HX2 := Lib.hid (show ∀ u ∈ ([.int .i64 (PL (x * 12)), .int .i64 (PL (x * 12 + 1)), .int .i64 (PL (x * 12 + 2)), .int .i64 (PL (x * 12 + 3)), .int .i64 (PL (x * 12 + 4)), .int .i64 (PL (x * 12 + 5)), .int .i64 (PL (x * 12 + 6)), .int .i64 (PL (x * 12 + 7)), .int .i64 (PL (x * 12 + 8)), .int .i64 (PL (x * 12 + 9)), .int .i64 (PL (x * 12 + 10)), .int .i64 (PL (x * 12 + 11))] : List Value), u.oneCell' = true by intro u hu; simp only [List.mem_cons, List.not_mem_nil, or_false] at hu; rcases hu with rfl | rfl | rfl | rfl | rfl | rfl | rfl | rfl | rfl | rfl | rfl | rfl <;> rfl)
        have hE : ∀ c, c < 12 → pl PL l (k * 12 + c + 12) = PL (x * 12 + c) := fun c hc => by rw [show k * 12 + c + 12 = (k + 1) * 12 + c by omega, pl_at PL l (k + 1) c hc, ← HX.out]
        have hE0 : pl PL l (k * 12 + 12) = PL (x * 12) := hE 0 (by omega)
        have HST := Lib.hid (show flat12 (fun j => pl PL l (j + 12)) (k + 1) = flat12 (fun j => pl PL l (j + 12)) k ++ [.int .i64 (PL (x * 12)), .int .i64 (PL (x * 12 + 1)), .int .i64 (PL (x * 12 + 2)), .int .i64 (PL (x * 12 + 3)), .int .i64 (PL (x * 12 + 4)), .int .i64 (PL (x * 12 + 5)), .int .i64 (PL (x * 12 + 6)), .int .i64 (PL (x * 12 + 7)), .int .i64 (PL (x * 12 + 8)), .int .i64 (PL (x * 12 + 9)), .int .i64 (PL (x * 12 + 10)), .int .i64 (PL (x * 12 + 11))] by
          rw [flat12_step]
          simp only [hE0, hE 1 (by omega), hE 2 (by omega), hE 3 (by omega), hE 4 (by omega), hE 5 (by omega), hE 6 (by omega), hE 7 (by omega), hE 8 (by omega), hE 9 (by omega), hE 10 (by omega), hE 11 (by omega)])
        clear hE hE0
        go_wp2_with (first | (at_builtin; refine wpList_append_own _ rfl _ _ 29 rfl y0.heap.size 43 i0 (.agg #[.int .i64 0, .int .i64 0, .int .i64 0, .int .i64 0, .int .i64 0, .int .i64 0, .int .i64 0, .int .i64 0, .int .i64 0, .int .i64 0, .int .i64 0, .int .i64 0]) 12 96 Try.underlying29 hi hz0 hz1 hz2 rfl (by decide) _ _ _ rfl HI.out ⟨wr.heap.size, 0, none⟩ 1 1 [.int .i64 (PL (x * 12)), .int .i64 (PL (x * 12 + 1)), .int .i64 (PL (x * 12 + 2)), .int .i64 (PL (x * 12 + 3)), .int .i64 (PL (x * 12 + 4)), .int .i64 (PL (x * 12 + 5)), .int .i64 (PL (x * 12 + 6)), .int .i64 (PL (x * 12 + 7)), .int .i64 (PL (x * 12 + 8)), .int .i64 (PL (x * 12 + 9)), .int .i64 (PL (x * 12 + 10)), .int .i64 (PL (x * 12 + 11))] rfl rfl HX1.out HX2.out ?c3 ?c4 ?c5 ?_))
        case c3 => unfold maxLen; omega
        case c4 => omega
        case c5 => (first | omega | (simp; omega))
        intro v2 w2 hown hgrow _
        have HB2 := Lib.hid ((HB.out.alloc hbs _).grown hgrow (by simp; omega) (fun q hq => (HO.out.lt q hq).1))
        rw [← HST.out] at hown
        have HO2 := Lib.hid hown
        clear hown hgrow HST HX1 HX2 HI
        go_wp2_with fail
        go_roundw
        case rel => exact ⟨k + 1, by omega, by go_num, HO2, HB2⟩
        case measure => simp [intOf]; omega
      · have HKK := Lib.hid (show k = m by omega)
        have hnl : ¬ (k : Int) < (m : Int) := by omega
        go_upto_region 7 with fail
        obtain ⟨y5, rfl⟩ : ∃ y : World, y = wr := ⟨_, rfl⟩
        have HU5 := Lib.hid (HU0.out.trans (HB.out.mono HU0.out.size))
        have hr5_0 := (HB.out.block _ hlr).trans HR0.out
        have hr5_1 := (HB.out.block mb (by omega)).trans ((HU0.out.block mb hml).trans HMB.out)
        have hs5 := HU5.out.size
        obtain ⟨x, hx⟩ : ∃ x, x = l.getD 0 0 := ⟨_, rfl⟩
        have hxN : x < N := by rw [hx]; exact HLT.out 0 (by have := HMM.out; omega)
        have hxi : (x : Int) < N := by omega
        have c0 : y5.cell? ⟨gl, ol, none⟩ = some (.int .i64 (x : Int)) := by rw [hx]; exact (HB.out.cell (p := ⟨gl, ol, none⟩) (by show gl < y0.heap.size; omega)).trans ((HU0.out.cell (p := ⟨gl, ol, none⟩) hgl).trans (HLL.out 0 (by have := HMM.out; omega)))
        have cp : ∀ c, c < 12 → y5.cell? ⟨gp, op + (x * 12 + c), none⟩ = some (.int .i64 (PL (x * 12 + c))) := fun c hc => (HB.out.cell (p := ⟨gp, op + (x * 12 + c), none⟩) (by show gp < y0.heap.size; omega)).trans ((HU0.out.cell (p := ⟨gp, op + (x * 12 + c), none⟩) hgp).trans (HPP.out _ (by omega)))
        have cp0 : y5.cell? ⟨gp, op + x * 12, none⟩ = some (.int .i64 (PL (x * 12))) := by have := cp 0 (by omega); rw [show op + (x * 12 + 0) = op + x * 12 by omega] at this; exact this
        have cp1 : y5.cell? ⟨gp, op + x * 12 + 1, none⟩ = some (.int .i64 (PL (x * 12 + 1))) := by have := cp 1 (by omega); rw [show op + (x * 12 + 1) = op + x * 12 + 1 by omega] at this; exact this
        have cp2 : y5.cell? ⟨gp, op + x * 12 + 2, none⟩ = some (.int .i64 (PL (x * 12 + 2))) := by have := cp 2 (by omega); rw [show op + (x * 12 + 2) = op + x * 12 + 2 by omega] at this; exact this
        have cp3 : y5.cell? ⟨gp, op + x * 12 + 3, none⟩ = some (.int .i64 (PL (x * 12 + 3))) := by have := cp 3 (by omega); rw [show op + (x * 12 + 3) = op + x * 12 + 3 by omega] at this; exact this
        have cp4 : y5.cell? ⟨gp, op + x * 12 + 4, none⟩ = some (.int .i64 (PL (x * 12 + 4))) := by have := cp 4 (by omega); rw [show op + (x * 12 + 4) = op + x * 12 + 4 by omega] at this; exact this
        have cp5 : y5.cell? ⟨gp, op + x * 12 + 5, none⟩ = some (.int .i64 (PL (x * 12 + 5))) := by have := cp 5 (by omega); rw [show op + (x * 12 + 5) = op + x * 12 + 5 by omega] at this; exact this
        have cp6 : y5.cell? ⟨gp, op + x * 12 + 6, none⟩ = some (.int .i64 (PL (x * 12 + 6))) := by have := cp 6 (by omega); rw [show op + (x * 12 + 6) = op + x * 12 + 6 by omega] at this; exact this
        have cp7 : y5.cell? ⟨gp, op + x * 12 + 7, none⟩ = some (.int .i64 (PL (x * 12 + 7))) := by have := cp 7 (by omega); rw [show op + (x * 12 + 7) = op + x * 12 + 7 by omega] at this; exact this
        have cp8 : y5.cell? ⟨gp, op + x * 12 + 8, none⟩ = some (.int .i64 (PL (x * 12 + 8))) := by have := cp 8 (by omega); rw [show op + (x * 12 + 8) = op + x * 12 + 8 by omega] at this; exact this
        have cp9 : y5.cell? ⟨gp, op + x * 12 + 9, none⟩ = some (.int .i64 (PL (x * 12 + 9))) := by have := cp 9 (by omega); rw [show op + (x * 12 + 9) = op + x * 12 + 9 by omega] at this; exact this
        have cp10 : y5.cell? ⟨gp, op + x * 12 + 10, none⟩ = some (.int .i64 (PL (x * 12 + 10))) := by have := cp 10 (by omega); rw [show op + (x * 12 + 10) = op + x * 12 + 10 by omega] at this; exact this
        have cp11 : y5.cell? ⟨gp, op + x * 12 + 11, none⟩ = some (.int .i64 (PL (x * 12 + 11))) := by have := cp 11 (by omega); rw [show op + (x * 12 + 11) = op + x * 12 + 11 by omega] at this; exact this
        clear cp
        have hpx : ∀ c, c < 12 → pl PL l c = PL (x * 12 + c) := fun c hc => by have := pl_at PL l 0 c hc; rw [Nat.zero_mul, Nat.zero_add, ← hx] at this; exact this
        have hn1 : l.length - 1 = m := by have := HMM.out; omega
        have hn2 : 1 ≤ l.length := by have := HMM.out; omega
        have a0_ : foldN min (PL (x * 12)) (fun j => pl PL l (j * 12 + 12)) m = lo6 (La (pl PL l)) 0 l.length := by
          have h := next_a min (pl PL l) 0 l.length (by omega) hn2 (by simp)
          rw [hn1, show pl PL l 0 = PL (x * 12) from hpx 0 (by omega)] at h
          exact h
        have a1_ : foldN min (PL (x * 12 + 1)) (fun j => pl PL l (j * 12 + 1 + 12)) m = lo6 (La (pl PL l)) 1 l.length := by
          have h := next_a min (pl PL l) 1 l.length (by omega) hn2 (by simp)
          rw [hn1, show pl PL l 1 = PL (x * 12 + 1) from hpx 1 (by omega)] at h
          exact h
        have a2_ : foldN min (PL (x * 12 + 2)) (fun j => pl PL l (j * 12 + 2 + 12)) m = lo6 (La (pl PL l)) 2 l.length := by
          have h := next_a min (pl PL l) 2 l.length (by omega) hn2 (by simp)
          rw [hn1, show pl PL l 2 = PL (x * 12 + 2) from hpx 2 (by omega)] at h
          exact h
        have a3_ : foldN max (PL (x * 12 + 3)) (fun j => pl PL l (j * 12 + 3 + 12)) m = hi6 (La (pl PL l)) 0 l.length := by
          have h := next_a max (pl PL l) 3 l.length (by omega) hn2 (by simp)
          rw [hn1, show pl PL l 3 = PL (x * 12 + 3) from hpx 3 (by omega)] at h
          exact h
        have a4_ : foldN max (PL (x * 12 + 4)) (fun j => pl PL l (j * 12 + 4 + 12)) m = hi6 (La (pl PL l)) 1 l.length := by
          have h := next_a max (pl PL l) 4 l.length (by omega) hn2 (by simp)
          rw [hn1, show pl PL l 4 = PL (x * 12 + 4) from hpx 4 (by omega)] at h
          exact h
        have a5_ : foldN max (PL (x * 12 + 5)) (fun j => pl PL l (j * 12 + 5 + 12)) m = hi6 (La (pl PL l)) 2 l.length := by
          have h := next_a max (pl PL l) 5 l.length (by omega) hn2 (by simp)
          rw [hn1, show pl PL l 5 = PL (x * 12 + 5) from hpx 5 (by omega)] at h
          exact h
        have a6_ : foldN min (PL (x * 12 + 6)) (fun j => pl PL l (j * 12 + 6 + 12)) m = lo6 (Lb (pl PL l)) 0 l.length := by
          have h := next_b min (pl PL l) 0 l.length (by omega) hn2 (by simp)
          rw [hn1, show pl PL l (6 + 0) = PL (x * 12 + 6) from hpx 6 (by omega)] at h
          exact h
        have a7_ : foldN min (PL (x * 12 + 7)) (fun j => pl PL l (j * 12 + 7 + 12)) m = lo6 (Lb (pl PL l)) 1 l.length := by
          have h := next_b min (pl PL l) 1 l.length (by omega) hn2 (by simp)
          rw [hn1, show pl PL l (6 + 1) = PL (x * 12 + 7) from hpx 7 (by omega)] at h
          exact h
        have a8_ : foldN min (PL (x * 12 + 8)) (fun j => pl PL l (j * 12 + 8 + 12)) m = lo6 (Lb (pl PL l)) 2 l.length := by
          have h := next_b min (pl PL l) 2 l.length (by omega) hn2 (by simp)
          rw [hn1, show pl PL l (6 + 2) = PL (x * 12 + 8) from hpx 8 (by omega)] at h
          exact h
        have a9_ : foldN max (PL (x * 12 + 9)) (fun j => pl PL l (j * 12 + 9 + 12)) m = hi6 (Lb (pl PL l)) 0 l.length := by
          have h := next_b max (pl PL l) 3 l.length (by omega) hn2 (by simp)
          rw [hn1, show pl PL l (6 + 3) = PL (x * 12 + 9) from hpx 9 (by omega)] at h
          exact h
        have a10_ : foldN max (PL (x * 12 + 10)) (fun j => pl PL l (j * 12 + 10 + 12)) m = hi6 (Lb (pl PL l)) 1 l.length := by
          have h := next_b max (pl PL l) 4 l.length (by omega) hn2 (by simp)
          rw [hn1, show pl PL l (6 + 4) = PL (x * 12 + 10) from hpx 10 (by omega)] at h
          exact h
        have a11_ : foldN max (PL (x * 12 + 11)) (fun j => pl PL l (j * 12 + 11 + 12)) m = hi6 (Lb (pl PL l)) 2 l.length := by
          have h := next_b max (pl PL l) 5 l.length (by omega) hn2 (by simp)
          rw [hn1, show pl PL l (6 + 5) = PL (x * 12 + 11) from hpx 11 (by omega)] at h
          exact h
        have HBT := Lib.hid (fun (W : World) (hW : RowU 12 W u5 m (fun j => pl PL l (j + 12))) => show Calls Try.prog 24 #[.agg #[.int .i64 (PL (x * 12)), .int .i64 (PL (x * 12 + 1)), .int .i64 (PL (x * 12 + 2)), .int .i64 (PL (x * 12 + 3)), .int .i64 (PL (x * 12 + 4)), .int .i64 (PL (x * 12 + 5)), .int .i64 (PL (x * 12 + 6)), .int .i64 (PL (x * 12 + 7)), .int .i64 (PL (x * 12 + 8)), .int .i64 (PL (x * 12 + 9)), .int .i64 (PL (x * 12 + 10)), .int .i64 (PL (x * 12 + 11))], u5] W fun e w' => e = .returned (.agg #[.int .i64 (lo6 (La (pl PL l)) 0 l.length), .int .i64 (lo6 (La (pl PL l)) 1 l.length), .int .i64 (lo6 (La (pl PL l)) 2 l.length), .int .i64 (hi6 (La (pl PL l)) 0 l.length), .int .i64 (hi6 (La (pl PL l)) 1 l.length), .int .i64 (hi6 (La (pl PL l)) 2 l.length), .int .i64 (lo6 (Lb (pl PL l)) 0 l.length), .int .i64 (lo6 (Lb (pl PL l)) 1 l.length), .int .i64 (lo6 (Lb (pl PL l)) 2 l.length), .int .i64 (hi6 (Lb (pl PL l)) 0 l.length), .int .i64 (hi6 (Lb (pl PL l)) 1 l.length), .int .i64 (hi6 (Lb (pl PL l)) 2 l.length)]) ∧ Below W.heap.size W w' from by
          refine (both_any (PL (x * 12)) (PL (x * 12 + 1)) (PL (x * 12 + 2)) (PL (x * 12 + 3)) (PL (x * 12 + 4)) (PL (x * 12 + 5)) (PL (x * 12 + 6)) (PL (x * 12 + 7)) (PL (x * 12 + 8)) (PL (x * 12 + 9)) (PL (x * 12 + 10)) (PL (x * 12 + 11)) u5 m (fun j => pl PL l (j + 12)) (by omega) W hW).mono ?_
          rintro e w' ⟨rfl, hb⟩
          refine ⟨?_, hb⟩
          show Ending.returned (.agg #[.int .i64 (foldN min (PL (x * 12)) (fun j => pl PL l (j * 12 + 12)) m), .int .i64 (foldN min (PL (x * 12 + 1)) (fun j => pl PL l (j * 12 + 1 + 12)) m), .int .i64 (foldN min (PL (x * 12 + 2)) (fun j => pl PL l (j * 12 + 2 + 12)) m), .int .i64 (foldN max (PL (x * 12 + 3)) (fun j => pl PL l (j * 12 + 3 + 12)) m), .int .i64 (foldN max (PL (x * 12 + 4)) (fun j => pl PL l (j * 12 + 4 + 12)) m), .int .i64 (foldN max (PL (x * 12 + 5)) (fun j => pl PL l (j * 12 + 5 + 12)) m), .int .i64 (foldN min (PL (x * 12 + 6)) (fun j => pl PL l (j * 12 + 6 + 12)) m), .int .i64 (foldN min (PL (x * 12 + 7)) (fun j => pl PL l (j * 12 + 7 + 12)) m), .int .i64 (foldN min (PL (x * 12 + 8)) (fun j => pl PL l (j * 12 + 8 + 12)) m), .int .i64 (foldN max (PL (x * 12 + 9)) (fun j => pl PL l (j * 12 + 9 + 12)) m), .int .i64 (foldN max (PL (x * 12 + 10)) (fun j => pl PL l (j * 12 + 10 + 12)) m), .int .i64 (foldN max (PL (x * 12 + 11)) (fun j => pl PL l (j * 12 + 11 + 12)) m)]) = _
          rw [a0_, a1_, a2_, a3_, a4_, a5_, a6_, a7_, a8_, a9_, a10_, a11_])
        clear a0_ a1_ a2_ a3_ a4_ a5_ a6_ a7_ a8_ a9_ a10_ a11_ hpx hn1 hn2
        have HRU5 := Lib.hid (show RowU 12 y5 u5 m (fun j => pl PL l (j + 12)) from by
          have ho := HO.out
          rw [HKK.out] at ho
          have ho2 := ho
          rcases ho.2 with ⟨hv, h0⟩ | ⟨gb, cap, cur, hv, hb, h3, -⟩
          · exact .inl ⟨hv, h0⟩
          · rw [hv] at ho2
            exact .inr ⟨gb, 0, cap, hv, lt_heap h3, fun j hj => by rw [Nat.zero_add]; exact (ho2.cellAt j (by omega)).trans (flat12_at _ _ _ hj)⟩)
        clear hx hlt' hk
        refine wp_region_held_drew (S := fun y => y.heap[mb]? = some (.cells #[nv, ov, .slice (some ⟨gp, op, none⟩) N pc] 58 (0, 0)) ∧ y.cell? ⟨gl, ol, none⟩ = some (.int .i64 (x : Int)) ∧ y.cell? ⟨gp, op + x * 12, none⟩ = some (.int .i64 (PL (x * 12))) ∧ y.cell? ⟨gp, op + x * 12 + 1, none⟩ = some (.int .i64 (PL (x * 12 + 1))) ∧ y.cell? ⟨gp, op + x * 12 + 2, none⟩ = some (.int .i64 (PL (x * 12 + 2))) ∧ y.cell? ⟨gp, op + x * 12 + 3, none⟩ = some (.int .i64 (PL (x * 12 + 3))) ∧ y.cell? ⟨gp, op + x * 12 + 4, none⟩ = some (.int .i64 (PL (x * 12 + 4))) ∧ y.cell? ⟨gp, op + x * 12 + 5, none⟩ = some (.int .i64 (PL (x * 12 + 5))) ∧ y.cell? ⟨gp, op + x * 12 + 6, none⟩ = some (.int .i64 (PL (x * 12 + 6))) ∧ y.cell? ⟨gp, op + x * 12 + 7, none⟩ = some (.int .i64 (PL (x * 12 + 7))) ∧ y.cell? ⟨gp, op + x * 12 + 8, none⟩ = some (.int .i64 (PL (x * 12 + 8))) ∧ y.cell? ⟨gp, op + x * 12 + 9, none⟩ = some (.int .i64 (PL (x * 12 + 9))) ∧ y.cell? ⟨gp, op + x * 12 + 10, none⟩ = some (.int .i64 (PL (x * 12 + 10))) ∧ y.cell? ⟨gp, op + x * 12 + 11, none⟩ = some (.int .i64 (PL (x * 12 + 11)))) (by kernel_rfl) (⟨hr5_1, c0, cp0, cp1, cp2, cp3, cp4, cp5, cp6, cp7, cp8, cp9, cp10, cp11⟩) (fun hS0 => ?_)
        obtain ⟨y6, hy6⟩ : ∃ y, y5.drew = y := ⟨_, rfl⟩
        have HU6 := Lib.hid (show Below w.heap.size w y6 by rw [← hy6]; exact HU5.out.drew)
        have hr6_0 : y6.heap[w.heap.size]? = some (.cells #[.int .i64 0, .int .i64 0, .int .i64 0, .int .i64 0, .int .i64 0, .int .i64 0, .int .i64 0, .int .i64 0, .int .i64 0, .int .i64 0, .int .i64 0, .int .i64 0] 43 (0, 0)) := by rw [← hy6]; exact hr5_0
        have hr6_1 : y6.heap[mb]? = some (.cells #[nv, ov, .slice (some ⟨gp, op, none⟩) N pc] 58 (0, 0)) := by rw [← hy6]; exact hr5_1
        have HRU6 := Lib.hid (HRU5.out.on (show Below y5.heap.size y5 y6 by rw [← hy6]; exact (Below.refl _ _).drew))
        have hs6 : y5.heap.size ≤ y6.heap.size := by rw [← hy6]; exact (Below.refl y5.heap.size y5).drew.size
        rw [hy6] at hS0 ⊢
        clear hy6
        refine wpAnyH_take (i := 0) (v := ?_) rfl (by kernel_rfl) (by kernel_rfl) (by kernel_rfl) (fun _ _ _ h => h) (Or.inl ⟨by kernel_rfl, by (intro wz hSz; go_simp; try with_reducible rfl)⟩) hS0 ?_
        go_simp
        refine wpAnyH_take (i := 1) (v := ?_) rfl (by kernel_rfl) (by kernel_rfl) (by kernel_rfl) (fun _ _ _ h => h) (Or.inl ⟨by kernel_rfl, by (intro wz hSz; go_simp; try with_reducible rfl)⟩) hS0 ?_
        go_simp
        refine wpAnyH_take (i := 2) (v := ?_) rfl (by kernel_rfl) (by kernel_rfl) (by kernel_rfl) (fun _ _ _ h => h) (Or.inl ⟨by kernel_rfl, by (intro wz hSz; go_simp; try with_reducible rfl)⟩) hS0 ?_
        go_simp
        refine wpAnyH_take (i := 3) (v := ?_) rfl (by kernel_rfl) (by kernel_rfl) (by kernel_rfl) (fun _ _ _ h => h) (Or.inl ⟨by kernel_rfl, by (intro wz hSz; have c1_0 := cell_of_row _ _ 0 _ _ _ hSz.1; have c1_1 := cell_of_row _ _ 1 _ _ _ hSz.1; have c1_2 := cell_of_row _ _ 2 _ _ _ hSz.1; simp at c1_0 c1_1 c1_2; have c0z := hSz.2.1; have cp0z := hSz.2.2.1; have cp1z := hSz.2.2.2.1; have cp2z := hSz.2.2.2.2.1; have cp3z := hSz.2.2.2.2.2.1; have cp4z := hSz.2.2.2.2.2.2.1; have cp5z := hSz.2.2.2.2.2.2.2.1; have cp6z := hSz.2.2.2.2.2.2.2.2.1; have cp7z := hSz.2.2.2.2.2.2.2.2.2.1; have cp8z := hSz.2.2.2.2.2.2.2.2.2.2.1; have cp9z := hSz.2.2.2.2.2.2.2.2.2.2.2.1; have cp10z := hSz.2.2.2.2.2.2.2.2.2.2.2.2.1; have cp11z := hSz.2.2.2.2.2.2.2.2.2.2.2.2.2; go_simp; try with_reducible rfl)⟩) hS0 ?_
        go_simp
        refine wpAnyH_take (i := 4) (v := ?_) rfl (by kernel_rfl) (by kernel_rfl) (by kernel_rfl) (fun _ _ _ h => h) (Or.inl ⟨by kernel_rfl, by (intro wz hSz; go_simp; try with_reducible rfl)⟩) hS0 ?_
        go_simp
        refine wpAnyH_take (i := 5) (v := ?_) rfl (by kernel_rfl) (by kernel_rfl) (by kernel_rfl) (fun _ _ _ h => h) (Or.inl ⟨by kernel_rfl, by (intro wz hSz; go_simp; try with_reducible rfl)⟩) hS0 ?_
        go_simp
        refine wpAnyH_take (i := 6) (v := ?_) rfl (by kernel_rfl) (by kernel_rfl) (by kernel_rfl) (fun _ _ _ h => h) (Or.inl ⟨by kernel_rfl, by (intro wz hSz; have c1_0 := cell_of_row _ _ 0 _ _ _ hSz.1; have c1_1 := cell_of_row _ _ 1 _ _ _ hSz.1; have c1_2 := cell_of_row _ _ 2 _ _ _ hSz.1; simp at c1_0 c1_1 c1_2; have c0z := hSz.2.1; have cp0z := hSz.2.2.1; have cp1z := hSz.2.2.2.1; have cp2z := hSz.2.2.2.2.1; have cp3z := hSz.2.2.2.2.2.1; have cp4z := hSz.2.2.2.2.2.2.1; have cp5z := hSz.2.2.2.2.2.2.2.1; have cp6z := hSz.2.2.2.2.2.2.2.2.1; have cp7z := hSz.2.2.2.2.2.2.2.2.2.1; have cp8z := hSz.2.2.2.2.2.2.2.2.2.2.1; have cp9z := hSz.2.2.2.2.2.2.2.2.2.2.2.1; have cp10z := hSz.2.2.2.2.2.2.2.2.2.2.2.2.1; have cp11z := hSz.2.2.2.2.2.2.2.2.2.2.2.2.2; go_simp; try with_reducible rfl)⟩) hS0 ?_
        go_simp
        refine wpAnyH_take (i := 7) (v := ?_) rfl (by kernel_rfl) (by kernel_rfl) (by kernel_rfl) (fun _ _ _ h => h) (Or.inl ⟨by kernel_rfl, by (intro wz hSz; go_simp; try with_reducible rfl)⟩) hS0 ?_
        go_simp
        refine wpAnyH_take (i := 8) (v := ?_) rfl (by kernel_rfl) (by kernel_rfl) (by kernel_rfl) (fun _ _ _ h => h) (Or.inl ⟨by kernel_rfl, by (intro wz hSz; have c1_0 := cell_of_row _ _ 0 _ _ _ hSz.1; have c1_1 := cell_of_row _ _ 1 _ _ _ hSz.1; have c1_2 := cell_of_row _ _ 2 _ _ _ hSz.1; simp at c1_0 c1_1 c1_2; have c0z := hSz.2.1; have cp0z := hSz.2.2.1; have cp1z := hSz.2.2.2.1; have cp2z := hSz.2.2.2.2.1; have cp3z := hSz.2.2.2.2.2.1; have cp4z := hSz.2.2.2.2.2.2.1; have cp5z := hSz.2.2.2.2.2.2.2.1; have cp6z := hSz.2.2.2.2.2.2.2.2.1; have cp7z := hSz.2.2.2.2.2.2.2.2.2.1; have cp8z := hSz.2.2.2.2.2.2.2.2.2.2.1; have cp9z := hSz.2.2.2.2.2.2.2.2.2.2.2.1; have cp10z := hSz.2.2.2.2.2.2.2.2.2.2.2.2.1; have cp11z := hSz.2.2.2.2.2.2.2.2.2.2.2.2.2; go_simp; try with_reducible rfl)⟩) hS0 ?_
        go_simp
        refine wpAnyH_take (i := 9) (v := ?_) rfl (by kernel_rfl) (by kernel_rfl) (by kernel_rfl) (fun _ _ _ h => h) (Or.inl ⟨by kernel_rfl, by (intro wz hSz; go_simp; try with_reducible rfl)⟩) hS0 ?_
        go_simp
        refine wpAnyH_ready (rs := [10]) (by kernel_rfl) (by simp) ?_
        refine AllReadyH.cons rfl (fun K hK => ?_) AllReadyH.nil
        go_simp
        go_wp2_with (go_at_call 24; refine (HBT.out _ HRU6.out).mono ?_; rintro e y7 ⟨rfl, hb7⟩)
        have hr7_0 := (hb7.block _ (lt_heap hr6_0)).trans hr6_0
        have hr7_1 := (hb7.block _ (lt_heap hr6_1)).trans hr6_1
        have HU7 := Lib.hid (HU6.out.trans (hb7.mono HU6.out.size))
        refine hK.out _ _ (⟨(hb7.block _ (lt_heap hS0.1)).trans hS0.1, (hb7.cell (p := ⟨gl, ol, none⟩) (by show gl < _; omega)).trans hS0.2.1, (hb7.cell (p := ⟨gp, op + x * 12, none⟩) (by show gp < _; omega)).trans hS0.2.2.1, (hb7.cell (p := ⟨gp, op + x * 12 + 1, none⟩) (by show gp < _; omega)).trans hS0.2.2.2.1, (hb7.cell (p := ⟨gp, op + x * 12 + 2, none⟩) (by show gp < _; omega)).trans hS0.2.2.2.2.1, (hb7.cell (p := ⟨gp, op + x * 12 + 3, none⟩) (by show gp < _; omega)).trans hS0.2.2.2.2.2.1, (hb7.cell (p := ⟨gp, op + x * 12 + 4, none⟩) (by show gp < _; omega)).trans hS0.2.2.2.2.2.2.1, (hb7.cell (p := ⟨gp, op + x * 12 + 5, none⟩) (by show gp < _; omega)).trans hS0.2.2.2.2.2.2.2.1, (hb7.cell (p := ⟨gp, op + x * 12 + 6, none⟩) (by show gp < _; omega)).trans hS0.2.2.2.2.2.2.2.2.1, (hb7.cell (p := ⟨gp, op + x * 12 + 7, none⟩) (by show gp < _; omega)).trans hS0.2.2.2.2.2.2.2.2.2.1, (hb7.cell (p := ⟨gp, op + x * 12 + 8, none⟩) (by show gp < _; omega)).trans hS0.2.2.2.2.2.2.2.2.2.2.1, (hb7.cell (p := ⟨gp, op + x * 12 + 9, none⟩) (by show gp < _; omega)).trans hS0.2.2.2.2.2.2.2.2.2.2.2.1, (hb7.cell (p := ⟨gp, op + x * 12 + 10, none⟩) (by show gp < _; omega)).trans hS0.2.2.2.2.2.2.2.2.2.2.2.2.1, (hb7.cell (p := ⟨gp, op + x * 12 + 11, none⟩) (by show gp < _; omega)).trans hS0.2.2.2.2.2.2.2.2.2.2.2.2.2⟩) (fun hS7c => ?_)
        clear hK K
        refine wpAnyH_ready (rs := [11]) (by kernel_rfl) (by simp) ?_
        refine AllReadyH.cons rfl (fun K hK => ?_) AllReadyH.nil
        refine step_store_row rfl 43 (.tmp 4) (.tmp 36) rfl #[.int .i64 0, .int .i64 0, .int .i64 0, .int .i64 0, .int .i64 0, .int .i64 0, .int .i64 0, .int .i64 0, .int .i64 0, .int .i64 0, .int .i64 0, .int .i64 0] #[.int .i64 (lo6 (La (pl PL l)) 0 l.length), .int .i64 (lo6 (La (pl PL l)) 1 l.length), .int .i64 (lo6 (La (pl PL l)) 2 l.length), .int .i64 (hi6 (La (pl PL l)) 0 l.length), .int .i64 (hi6 (La (pl PL l)) 1 l.length), .int .i64 (hi6 (La (pl PL l)) 2 l.length), .int .i64 (lo6 (Lb (pl PL l)) 0 l.length), .int .i64 (lo6 (Lb (pl PL l)) 1 l.length), .int .i64 (lo6 (Lb (pl PL l)) 2 l.length), .int .i64 (hi6 (Lb (pl PL l)) 0 l.length), .int .i64 (hi6 (Lb (pl PL l)) 1 l.length), .int .i64 (hi6 (Lb (pl PL l)) 2 l.length)] _ 43 hr7_0 rfl (by first | rfl | (go_simp; done) | (go_simp; rfl)) (by kernel_rfl) rfl (by simp [Value.oneCell']) ?_
        have hN := setRow_heap _ (w.heap.size) _ #[.int .i64 (lo6 (La (pl PL l)) 0 l.length), .int .i64 (lo6 (La (pl PL l)) 1 l.length), .int .i64 (lo6 (La (pl PL l)) 2 l.length), .int .i64 (hi6 (La (pl PL l)) 0 l.length), .int .i64 (hi6 (La (pl PL l)) 1 l.length), .int .i64 (hi6 (La (pl PL l)) 2 l.length), .int .i64 (lo6 (Lb (pl PL l)) 0 l.length), .int .i64 (lo6 (Lb (pl PL l)) 1 l.length), .int .i64 (lo6 (Lb (pl PL l)) 2 l.length), .int .i64 (hi6 (Lb (pl PL l)) 0 l.length), .int .i64 (hi6 (Lb (pl PL l)) 1 l.length), .int .i64 (hi6 (Lb (pl PL l)) 2 l.length)] _ _ hr7_0
        have hsz := HU7.out.size
        have HUx := below_setRow (g := w.heap.size) HU7.out (by first | omega | (simp at *; omega)) #[.int .i64 (lo6 (La (pl PL l)) 0 l.length), .int .i64 (lo6 (La (pl PL l)) 1 l.length), .int .i64 (lo6 (La (pl PL l)) 2 l.length), .int .i64 (hi6 (La (pl PL l)) 0 l.length), .int .i64 (hi6 (La (pl PL l)) 1 l.length), .int .i64 (hi6 (La (pl PL l)) 2 l.length), .int .i64 (lo6 (Lb (pl PL l)) 0 l.length), .int .i64 (lo6 (Lb (pl PL l)) 1 l.length), .int .i64 (lo6 (Lb (pl PL l)) 2 l.length), .int .i64 (hi6 (Lb (pl PL l)) 0 l.length), .int .i64 (hi6 (Lb (pl PL l)) 1 l.length), .int .i64 (hi6 (Lb (pl PL l)) 2 l.length)]
        obtain ⟨y8, hy8⟩ : ∃ y, y7.setRow (w.heap.size) #[.int .i64 (lo6 (La (pl PL l)) 0 l.length), .int .i64 (lo6 (La (pl PL l)) 1 l.length), .int .i64 (lo6 (La (pl PL l)) 2 l.length), .int .i64 (hi6 (La (pl PL l)) 0 l.length), .int .i64 (hi6 (La (pl PL l)) 1 l.length), .int .i64 (hi6 (La (pl PL l)) 2 l.length), .int .i64 (lo6 (Lb (pl PL l)) 0 l.length), .int .i64 (lo6 (Lb (pl PL l)) 1 l.length), .int .i64 (lo6 (Lb (pl PL l)) 2 l.length), .int .i64 (hi6 (Lb (pl PL l)) 0 l.length), .int .i64 (hi6 (Lb (pl PL l)) 1 l.length), .int .i64 (hi6 (Lb (pl PL l)) 2 l.length)] = y := ⟨_, rfl⟩
        have hO : ∀ k, k ≠ w.heap.size → y8.heap[k]? = y7.heap[k]? := fun k hk => by rw [← hy8]; exact setRow_other _ _ _ _ hk
        rw [hy8] at hN HUx ⊢
        clear hy8
        have HU8 := Lib.hid HUx
        clear HUx
        have hr8_0 := hN
        have hr8_1 := (hO _ (by omega)).trans hr7_1
        clear hN
        refine hK.out _ _ (⟨(hO _ (by omega)).trans hS7c.1, (show y8.cell? ⟨gl, ol, none⟩ = y7.cell? ⟨gl, ol, none⟩ from World.cell?_of_block (w := y7) (hO gl (by omega))).trans hS7c.2.1, (show y8.cell? ⟨gp, op + x * 12, none⟩ = y7.cell? ⟨gp, op + x * 12, none⟩ from World.cell?_of_block (w := y7) (hO gp (by omega))).trans hS7c.2.2.1, (show y8.cell? ⟨gp, op + x * 12 + 1, none⟩ = y7.cell? ⟨gp, op + x * 12 + 1, none⟩ from World.cell?_of_block (w := y7) (hO gp (by omega))).trans hS7c.2.2.2.1, (show y8.cell? ⟨gp, op + x * 12 + 2, none⟩ = y7.cell? ⟨gp, op + x * 12 + 2, none⟩ from World.cell?_of_block (w := y7) (hO gp (by omega))).trans hS7c.2.2.2.2.1, (show y8.cell? ⟨gp, op + x * 12 + 3, none⟩ = y7.cell? ⟨gp, op + x * 12 + 3, none⟩ from World.cell?_of_block (w := y7) (hO gp (by omega))).trans hS7c.2.2.2.2.2.1, (show y8.cell? ⟨gp, op + x * 12 + 4, none⟩ = y7.cell? ⟨gp, op + x * 12 + 4, none⟩ from World.cell?_of_block (w := y7) (hO gp (by omega))).trans hS7c.2.2.2.2.2.2.1, (show y8.cell? ⟨gp, op + x * 12 + 5, none⟩ = y7.cell? ⟨gp, op + x * 12 + 5, none⟩ from World.cell?_of_block (w := y7) (hO gp (by omega))).trans hS7c.2.2.2.2.2.2.2.1, (show y8.cell? ⟨gp, op + x * 12 + 6, none⟩ = y7.cell? ⟨gp, op + x * 12 + 6, none⟩ from World.cell?_of_block (w := y7) (hO gp (by omega))).trans hS7c.2.2.2.2.2.2.2.2.1, (show y8.cell? ⟨gp, op + x * 12 + 7, none⟩ = y7.cell? ⟨gp, op + x * 12 + 7, none⟩ from World.cell?_of_block (w := y7) (hO gp (by omega))).trans hS7c.2.2.2.2.2.2.2.2.2.1, (show y8.cell? ⟨gp, op + x * 12 + 8, none⟩ = y7.cell? ⟨gp, op + x * 12 + 8, none⟩ from World.cell?_of_block (w := y7) (hO gp (by omega))).trans hS7c.2.2.2.2.2.2.2.2.2.2.1, (show y8.cell? ⟨gp, op + x * 12 + 9, none⟩ = y7.cell? ⟨gp, op + x * 12 + 9, none⟩ from World.cell?_of_block (w := y7) (hO gp (by omega))).trans hS7c.2.2.2.2.2.2.2.2.2.2.2.1, (show y8.cell? ⟨gp, op + x * 12 + 10, none⟩ = y7.cell? ⟨gp, op + x * 12 + 10, none⟩ from World.cell?_of_block (w := y7) (hO gp (by omega))).trans hS7c.2.2.2.2.2.2.2.2.2.2.2.2.1, (show y8.cell? ⟨gp, op + x * 12 + 11, none⟩ = y7.cell? ⟨gp, op + x * 12 + 11, none⟩ from World.cell?_of_block (w := y7) (hO gp (by omega))).trans hS7c.2.2.2.2.2.2.2.2.2.2.2.2.2⟩) (fun hS8s => ?_)
        clear hK K
        refine wpAnyH_done (by kernel_rfl) ?_ _
        have c0_0 := cell_of_row _ _ 0 _ _ _ hr8_0
        have c0_1 := cell_of_row _ _ 1 _ _ _ hr8_0
        have c0_2 := cell_of_row _ _ 2 _ _ _ hr8_0
        have c0_3 := cell_of_row _ _ 3 _ _ _ hr8_0
        have c0_4 := cell_of_row _ _ 4 _ _ _ hr8_0
        have c0_5 := cell_of_row _ _ 5 _ _ _ hr8_0
        have c0_6 := cell_of_row _ _ 6 _ _ _ hr8_0
        have c0_7 := cell_of_row _ _ 7 _ _ _ hr8_0
        have c0_8 := cell_of_row _ _ 8 _ _ _ hr8_0
        have c0_9 := cell_of_row _ _ 9 _ _ _ hr8_0
        have c0_10 := cell_of_row _ _ 10 _ _ _ hr8_0
        have c0_11 := cell_of_row _ _ 11 _ _ _ hr8_0
        simp at c0_0 c0_1 c0_2 c0_3 c0_4 c0_5 c0_6 c0_7 c0_8 c0_9 c0_10 c0_11
        go_wp2
        exact bodyPost_ret (v := .agg #[.int .i64 (lo6 (La (pl PL l)) 0 l.length), .int .i64 (lo6 (La (pl PL l)) 1 l.length), .int .i64 (lo6 (La (pl PL l)) 2 l.length), .int .i64 (hi6 (La (pl PL l)) 0 l.length), .int .i64 (hi6 (La (pl PL l)) 1 l.length), .int .i64 (hi6 (La (pl PL l)) 2 l.length), .int .i64 (lo6 (Lb (pl PL l)) 0 l.length), .int .i64 (lo6 (Lb (pl PL l)) 1 l.length), .int .i64 (lo6 (Lb (pl PL l)) 2 l.length), .int .i64 (hi6 (Lb (pl PL l)) 0 l.length), .int .i64 (hi6 (Lb (pl PL l)) 1 l.length), .int .i64 (hi6 (Lb (pl PL l)) 2 l.length)]) (by simp [results, Try.results18, go_sem, c0_0, c0_1, c0_2, c0_3, c0_4, c0_5, c0_6, c0_7, c0_8, c0_9, c0_10, c0_11]) rfl ⟨by rw [HMM.out], HU8.out⟩

end Go.Proofs.Ytoppcnkfgmbpfaa.Tr
