/- Jobs: a track and a shape, laid by a writer, by the program. -/
import Derived.Test.YtfbppiamlolfpaaGreatD21
import Derived.Test.YtfbppiamlolfpaaGreatD12
namespace Go.Proofs.YtfbppiamlolfpaaGreat.Jw
open Go.RowKit Go.Proofs.YtfbppiamlolfpaaGreat Go.Proofs.YtfbppiamlolfpaaGreat.Rp Go.Proofs.YtfbppiamlolfpaaGreat.Re Go.Proofs.YtfbppiamlolfpaaGreat.Au Go.Proofs.YtfbppiamlolfpaaGreat.Tk
set_option linter.unusedVariables false
set_option linter.unusedSimpArgs false

/-- the bytes of some keys -/
def keysOf (K : Nat → Int) : Nat → List UInt8
  | 0 => []
  | k + 1 => keysOf K k ++ (numsOf 5 [K (k * 4)] ++ numsOf 5 [K (k * 4 + 1), K (k * 4 + 2), K (k * 4 + 3)])

theorem keysOf_length (K : Nat → Int) (k : Nat) : (keysOf K k).length = k * 20 := by
  induction k with
  | zero => rfl
  | succ k ih => simp only [keysOf, List.length_append, ih, numsOf_length, List.length_cons, List.length_nil]; omega

theorem keys4 {w : World} {a : Option Addr} {n i : Nat} {L : Nat → Int} (h : KeysAt w a n L) (hi : i < n) : ∃ b off, a = some ⟨b, off, none⟩ ∧ b < w.heap.size ∧ w.cell? ⟨b, off + i * 4, none⟩ = some (.int .i64 (L (i * 4))) ∧ w.cell? ⟨b, off + i * 4 + 1, none⟩ = some (.int .i64 (L (i * 4 + 1))) ∧ w.cell? ⟨b, off + i * 4 + 2, none⟩ = some (.int .i64 (L (i * 4 + 2))) ∧ w.cell? ⟨b, off + i * 4 + 3, none⟩ = some (.int .i64 (L (i * 4 + 3))) := by
  obtain ⟨-, h | ⟨b, off, rfl, hlt, hc⟩⟩ := h
  · omega
  · exact ⟨b, off, rfl, hlt, hc (i * 4) (by omega), hc (i * 4 + 1) (by omega), hc (i * 4 + 2) (by omega), hc (i * 4 + 3) (by omega)⟩

set_option maxHeartbeats 2000000 in
set_option maxRecDepth 100000 in
theorem wtrack (g B : Nat) (l : List UInt8) (way : Int) (ka : Option Addr) (kn kc : Nat) (K : Nat → Int) (w : World) (hw : WP g B l w) (hl : l.length ≤ 10000000) (hkn : kn ≤ 1000) (hk : ∀ W, Aft g B w W → KeysAt W ka kn K) : Calls Tryz.prog 53 #[.agg #[.pointer (some ⟨g, 0, none⟩)], .agg #[.int .i64 way, .slice ka kn kc]] w fun e' w' => e' = .returned (.tuple #[]) ∧ WP g B (l ++ numsOf 1 [way, (kn : Int)] ++ keysOf K kn) w' ∧ Aft g B w w' := by
  have HPw := Lib.hid hw
  obtain ⟨hB, hg⟩ := hw.size
  clear hw
  have HK := Lib.hid hk
  clear hk
  go_enter Tryz.func53, Tryz.ntmps53
  go_upto_region 1 with fail
  have hR := Au.rows2 w (.cells #[.pointer (some ⟨g, 0, none⟩)] 71) (.cells #[.int .i64 way, .slice ka kn kc] 81)
  have HUx := Ve.below_n2 w (.cells #[.pointer (some ⟨g, 0, none⟩)] 71) (.cells #[.int .i64 way, .slice ka kn kc] 81)
  obtain ⟨y0, hy0⟩ : ∃ y0, (w.alloc (.cells #[.pointer (some ⟨g, 0, none⟩)] 71)).alloc (.cells #[.int .i64 way, .slice ka kn kc] 81) = y0 := ⟨_, rfl⟩
  rw [hy0] at hR HUx ⊢
  clear hy0
  have HP0 := Lib.hid (HPw.out.new HUx)
  have hz0 := HUx.size
  have HU0 := Lib.hid (Aft.of (g := g) (base := B) HUx)
  clear HUx
  obtain ⟨hr0_0, hr0_1⟩ := hR
  have c0_0 := cell_of_row _ _ 0 _ _ _ hr0_0
  have c1_0 := cell_of_row _ _ 0 _ _ _ hr0_1
  have c1_1 := cell_of_row _ _ 1 _ _ _ hr0_1
  simp at c0_0 c1_0 c1_1
  go_wp2_with fail
  clear c0_0 c1_0 c1_1
  have hb1 := Ve.below_n1 y0 (.cells #[.int .i64 way, .int .i64 ((kn : Int))] 3)
  have hp1 := HP0.out.new hb1
  have hb1 := Aft.of (g := g) (base := B) hb1
  have hN := heap_alloc_last y0 (.cells #[.int .i64 way, .int .i64 ((kn : Int))] 3)
  obtain ⟨y1, hy1⟩ : ∃ y, y0.alloc (.cells #[.int .i64 way, .int .i64 ((kn : Int))] 3) = y := ⟨_, rfl⟩
  have hs1 : y1.heap.size = y0.heap.size + 1 := by rw [← hy1]; simp
  rw [hy1] at hb1 hN hp1 ⊢
  clear hy1
  have HP1 := Lib.hid hp1
  have hz1 := hb1.size
  have hl1_0 := lt_heap hr0_0
  have hl1_1 := lt_heap hr0_1
  have hr1_0 := hb1.other _ _ _ _ (by omega) (by decide) hr0_0
  have hr1_1 := hb1.other _ _ _ _ (by omega) (by decide) hr0_1
  have HU1 := Lib.hid (HU0.out.trans hb1)
  clear hr0_0 hr0_1 HU0
  have hr1_2 := hN
  clear hN
  refine (wbyte g B (l) [way, (kn : Int)] (y0.heap.size) 2 _ _ _ HP1.out hr1_2 rfl (by decide) (by omega) (by simp) (by first | omega | (simp only [List.length_append, numsOf_length, bytesOf_length, keysOf_length, List.length_cons, List.length_nil]; omega))).mono ?_
  rintro e y2 ⟨rfl, hp2, hb2⟩
  have HP2 := Lib.hid hp2
  have hz2 := hb2.size
  have hr2_0 := hb2.other _ _ _ _ (by omega) (by decide) hr1_0
  have hr2_1 := hb2.other _ _ _ _ (by omega) (by decide) hr1_1
  have hr2_2 := hb2.other _ _ _ _ (by omega) (by decide) hr1_2
  have HU2 := Lib.hid (HU1.out.trans hb2)
  clear hr1_0 hr1_1 hr1_2 HU1
  have HK1 := Lib.hid (fun W (h : Aft g B y2 W) => HK.out W (HU2.out.trans h))
  clear HK
  have c1_0 := cell_of_row _ _ 0 _ _ _ hr2_1
  have c1_1 := cell_of_row _ _ 1 _ _ _ hr2_1
  simp at c1_0 c1_1
  go_wp2_with fail
  clear c1_0 c1_1
  go_loopw [18] (fun i wr => ∃ k : Nat, k ≤ kn ∧ i = .int .i64 k ∧ Hid (WP g B (l ++ numsOf 1 [way, (kn : Int)] ++ keysOf K k) wr) ∧ Hid (Aft g B w wr) ∧ Hid (Aft g B y2 wr) ∧ wr.heap[w.heap.size]? = some (.cells #[.pointer (some ⟨g, 0, none⟩)] 71 (0, 0))) (fun i _ => kn - (intOf i).toNat)
  case atStart => exact ⟨0, by omega, rfl, Lib.hid (by rw [keysOf, List.append_nil]; exact HP2.out), HU2, Lib.hid (Aft.refl _ _ _), hr2_0⟩
  case round =>
    obtain ⟨k, hk, rfl, HP12, HU12, HV, hr12_0⟩ := hrel
    rename World => y12
    have hz12 := HU12.out.size
    by_cases hlt : k < kn
    · have hlt' : (k : Int) < kn := by omega
      obtain ⟨kb, koff, rfl, hkb, k0, k1, k2, k3⟩ := keys4 (HK1.out _ HV.out) hlt
      obtain ⟨zt, hzt⟩ : ∃ v, v = K (k * 4) := ⟨_, rfl⟩
      rw [← hzt] at k0
      obtain ⟨zx, hzx⟩ : ∃ v, v = K (k * 4 + 1) := ⟨_, rfl⟩
      rw [← hzx] at k1
      obtain ⟨zy, hzy⟩ : ∃ v, v = K (k * 4 + 2) := ⟨_, rfl⟩
      rw [← hzy] at k2
      obtain ⟨zz, hzz⟩ : ∃ v, v = K (k * 4 + 3) := ⟨_, rfl⟩
      rw [← hzz] at k3
      have HKK := Lib.hid (show keysOf K (k + 1) = keysOf K k ++ (numsOf 5 [zt] ++ numsOf 5 [zx, zy, zz]) by rw [hzt, hzx, hzy, hzz]; rfl)
      clear hzt hzx hzy hzz
      go_upto_region 5 with fail
      clear k0 k1 k2 k3
      have hl12_0 := lt_heap hr12_0
      have hb13 := Ve.below_n1 y12 (.cells #[.int .i64 zt, .int .i64 zx, .int .i64 zy, .int .i64 zz] 164)
      have hp13 := HP12.out.new hb13
      have hb13 := Aft.of (g := g) (base := B) hb13
      have hN := heap_alloc_last y12 (.cells #[.int .i64 zt, .int .i64 zx, .int .i64 zy, .int .i64 zz] 164)
      obtain ⟨y13, hy13⟩ : ∃ y, y12.alloc (.cells #[.int .i64 zt, .int .i64 zx, .int .i64 zy, .int .i64 zz] 164) = y := ⟨_, rfl⟩
      have hs13 : y13.heap.size = y12.heap.size + 1 := by rw [← hy13]; simp
      rw [hy13] at hb13 hN hp13 ⊢
      clear hy13
      have HP13 := Lib.hid hp13
      have hz13 := hb13.size
      have hl13_0 := lt_heap hr12_0
      have hr13_0 := hb13.other _ _ _ _ (by omega) (by decide) hr12_0
      have HU13 := Lib.hid (HU12.out.trans hb13)
      have HV13 := Lib.hid (HV.out.trans hb13)
      clear hr12_0 HU12
      have hr13_1 := hN
      clear hN
      replace hs13 : y12.heap.size < y13.heap.size := by omega
      have c0_0 := cell_of_row _ _ 0 _ _ _ hr13_0
      have c1_0 := cell_of_row _ _ 0 _ _ _ hr13_1
      have c1_1 := cell_of_row _ _ 1 _ _ _ hr13_1
      have c1_2 := cell_of_row _ _ 2 _ _ _ hr13_1
      have c1_3 := cell_of_row _ _ 3 _ _ _ hr13_1
      simp at c0_0 c1_0 c1_1 c1_2 c1_3
      go_wp2_with fail
      clear c0_0 c1_0 c1_1 c1_2 c1_3
      have hb14 := Ve.below_n1 y13 (.cells #[.int .i64 zt] 39)
      have hp14 := HP13.out.new hb14
      have hb14 := Aft.of (g := g) (base := B) hb14
      have hN := heap_alloc_last y13 (.cells #[.int .i64 zt] 39)
      obtain ⟨y14, hy14⟩ : ∃ y, y13.alloc (.cells #[.int .i64 zt] 39) = y := ⟨_, rfl⟩
      have hs14 : y14.heap.size = y13.heap.size + 1 := by rw [← hy14]; simp
      rw [hy14] at hb14 hN hp14 ⊢
      clear hy14
      have HP14 := Lib.hid hp14
      have hz14 := hb14.size
      have hl14_0 := lt_heap hr13_0
      have hl14_1 := lt_heap hr13_1
      have hr14_0 := hb14.other _ _ _ _ (by omega) (by decide) hr13_0
      have hr14_1 := hb14.other _ _ _ _ (by omega) (by decide) hr13_1
      have HU14 := Lib.hid (HU13.out.trans hb14)
      have HV14 := Lib.hid (HV13.out.trans hb14)
      clear HV13
      clear hr13_0 hr13_1 HU13
      have hr14_2 := hN
      clear hN
      refine (wfix g B (l ++ numsOf 1 [way, (kn : Int)] ++ keysOf K k) [zt] (y13.heap.size) 1 _ _ _ HP14.out hr14_2 rfl (by decide) (by omega) (by simp) (by first | omega | (simp only [List.length_append, numsOf_length, bytesOf_length, keysOf_length, List.length_cons, List.length_nil]; omega))).mono ?_
      rintro e y15 ⟨rfl, hp15, hb15⟩
      have HP15 := Lib.hid hp15
      have hz15 := hb15.size
      have hr15_0 := hb15.other _ _ _ _ (by omega) (by decide) hr14_0
      have hr15_1 := hb15.other _ _ _ _ (by omega) (by decide) hr14_1
      have hr15_2 := hb15.other _ _ _ _ (by omega) (by decide) hr14_2
      have HU15 := Lib.hid (HU14.out.trans hb15)
      have HV15 := Lib.hid (HV14.out.trans hb15)
      clear HV14
      clear hr14_0 hr14_1 hr14_2 HU14
      have c0_0 := cell_of_row _ _ 0 _ _ _ hr15_0
      have c1_0 := cell_of_row _ _ 0 _ _ _ hr15_1
      have c1_1 := cell_of_row _ _ 1 _ _ _ hr15_1
      have c1_2 := cell_of_row _ _ 2 _ _ _ hr15_1
      have c1_3 := cell_of_row _ _ 3 _ _ _ hr15_1
      simp at c0_0 c1_0 c1_1 c1_2 c1_3
      go_wp2_with fail
      clear c0_0 c1_0 c1_1 c1_2 c1_3
      have hb16 := Ve.below_n1 y15 (.cells #[.int .i64 zx, .int .i64 zy, .int .i64 zz] 94)
      have hp16 := HP15.out.new hb16
      have hb16 := Aft.of (g := g) (base := B) hb16
      have hN := heap_alloc_last y15 (.cells #[.int .i64 zx, .int .i64 zy, .int .i64 zz] 94)
      obtain ⟨y16, hy16⟩ : ∃ y, y15.alloc (.cells #[.int .i64 zx, .int .i64 zy, .int .i64 zz] 94) = y := ⟨_, rfl⟩
      have hs16 : y16.heap.size = y15.heap.size + 1 := by rw [← hy16]; simp
      rw [hy16] at hb16 hN hp16 ⊢
      clear hy16
      have HP16 := Lib.hid hp16
      have hz16 := hb16.size
      have hl16_0 := lt_heap hr15_0
      have hl16_1 := lt_heap hr15_1
      have hl16_2 := lt_heap hr15_2
      have hr16_0 := hb16.other _ _ _ _ (by omega) (by decide) hr15_0
      have hr16_1 := hb16.other _ _ _ _ (by omega) (by decide) hr15_1
      have hr16_2 := hb16.other _ _ _ _ (by omega) (by decide) hr15_2
      have HU16 := Lib.hid (HU15.out.trans hb16)
      have HV16 := Lib.hid (HV15.out.trans hb16)
      clear HV15
      clear hr15_0 hr15_1 hr15_2 HU15
      have hr16_3 := hN
      clear hN
      refine (wvec g B (l ++ numsOf 1 [way, (kn : Int)] ++ keysOf K k ++ numsOf 5 [zt]) (y15.heap.size) 1 _ (zx) (zy) (zz) _ HP16.out hr16_3 (by decide) (by omega) (by first | omega | (simp only [List.length_append, numsOf_length, bytesOf_length, keysOf_length, List.length_cons, List.length_nil]; omega))).mono ?_
      rintro e y17 ⟨rfl, hp17, hb17⟩
      have HP17 := Lib.hid hp17
      have hz17 := hb17.size
      have hr17_0 := hb17.other _ _ _ _ (by omega) (by decide) hr16_0
      have hr17_1 := hb17.other _ _ _ _ (by omega) (by decide) hr16_1
      have hr17_2 := hb17.other _ _ _ _ (by omega) (by decide) hr16_2
      have hr17_3 := hb17.other _ _ _ _ (by omega) (by decide) hr16_3
      have HU17 := Lib.hid (HU16.out.trans hb17)
      have HV17 := Lib.hid (HV16.out.trans hb17)
      clear HV16
      clear hr16_0 hr16_1 hr16_2 hr16_3 HU16
      have HQ := Lib.hid (show WP g B (l ++ numsOf 1 [way, (kn : Int)] ++ keysOf K (k + 1)) y17 by rw [HKK.out]; simpa only [List.append_assoc] using HP17.out)
      have HV2 := HV17
      go_wp2_with fail
      go_roundw
      case rel => exact ⟨k + 1, by omega, by go_num, HQ, HU17, HV2, hr17_0⟩
      case measure => simp [intOf]; omega
    · obtain rfl : k = kn := by omega
      go_wp2
      go_end0
      exact ⟨rfl, HP12.out, HU12.out⟩

theorem heap_two (w : World) (o o2 : Obj) : ((w.alloc o).alloc o2).heap[w.heap.size + 1]? = some o2 := by
  have := heap_alloc_last (w.alloc o) o2
  rwa [World.size_alloc] at this

theorem wcor_ball (j p ax ay az bx by_ bz cx cy cz q : Int) (w : World) : Calls Tryz.prog 99 #[.agg #[.int .i64 j, .int .i64 p, .int .i64 0, .int .i64 ax, .int .i64 ay, .int .i64 az, .int .i64 bx, .int .i64 by_, .int .i64 bz, .int .i64 cx, .int .i64 cy, .int .i64 cz, .int .i64 q]] w fun e w' => (∃ b, e = .returned (.slice (some ⟨b, 0, none⟩) 1 1) ∧ w'.heap[b]? = some (.cells #[.int .i64 ax, .int .i64 ay, .int .i64 az] 94 (0, 0)) ∧ w.heap.size ≤ b) ∧ Below w.heap.size w w' := by
  go_enter Tryz.func99, Tryz.ntmps99
  go_wp2
  go_ret
  exact ⟨⟨w.heap.size + 1, rfl, heap_two _ _ _, by omega⟩, Ve.below_n2 _ _ _⟩

theorem wcor_face (j p k ax ay az bx by_ bz cx cy cz q : Int) (h : ¬ k = 0) (w : World) : Calls Tryz.prog 99 #[.agg #[.int .i64 j, .int .i64 p, .int .i64 k, .int .i64 ax, .int .i64 ay, .int .i64 az, .int .i64 bx, .int .i64 by_, .int .i64 bz, .int .i64 cx, .int .i64 cy, .int .i64 cz, .int .i64 q]] w fun e w' => (∃ b, e = .returned (.slice (some ⟨b, 0, none⟩) 3 3) ∧ w'.heap[b]? = some (.cells #[.int .i64 ax, .int .i64 ay, .int .i64 az, .int .i64 bx, .int .i64 by_, .int .i64 bz, .int .i64 cx, .int .i64 cy, .int .i64 cz] 94 (0, 0)) ∧ w.heap.size ≤ b) ∧ Below w.heap.size w w' := by
  go_enter Tryz.func99, Tryz.ntmps99
  go_wp2
  go_ret
  exact ⟨⟨w.heap.size + 1, rfl, heap_two _ _ _, by omega⟩, Ve.below_n2 _ _ _⟩

theorem wvec9 (g B : Nat) (l : List UInt8) (b cap : Nat) (ax ay az bx by_ bz cx cy cz : Int) (w : World) (hw : WP g B l w) (hr : w.heap[b]? = some (.cells #[.int .i64 ax, .int .i64 ay, .int .i64 az, .int .i64 bx, .int .i64 by_, .int .i64 bz, .int .i64 cx, .int .i64 cy, .int .i64 cz] 94 (0, 0))) (hb : b ≠ g) (hl : l.length ≤ 20000000) :
    Calls Tryz.prog 98 #[.pointer (some ⟨g, 0, none⟩), .slice (some ⟨b, 0, none⟩) 3 cap] w fun e w' => e = .returned (.tuple #[]) ∧ WP g B (l ++ numsOf 5 [ax, ay, az, bx, by_, bz, cx, cy, cz]) w' ∧ Aft g B w w' := by
  have h := wvecs g B l b 0 cap 3 (fun j => [ax, ay, az, bx, by_, bz, cx, cy, cz].getD j 0) w hw (fun W ha j hj => by
    rw [Nat.zero_add, cell_of_row W b j _ _ _ (ha.other _ _ _ _ hb (by decide) hr)]
    match j, hj with
    | 0, _ => rfl
    | 1, _ => rfl
    | 2, _ => rfl
    | 3, _ => rfl
    | 4, _ => rfl
    | 5, _ => rfl
    | 6, _ => rfl
    | 7, _ => rfl
    | 8, _ => rfl) (by omega) hl
  have e : vecsOf (fun j => [ax, ay, az, bx, by_, bz, cx, cy, cz].getD j 0) 3 = numsOf 5 [ax, ay, az, bx, by_, bz, cx, cy, cz] := by simp [vecsOf, numsOf]
  rw [e] at h
  exact h

set_option maxHeartbeats 8000000 in
set_option maxRecDepth 100000 in
theorem wshape_face (g B : Nat) (l : List UInt8) (j p k ax ay az bx by_ bz cx cy cz q : Int) (w : World) (hw : WP g B l w) (hl : l.length ≤ 10000000) (hk : ¬ k = 0) : Calls Tryz.prog 55 #[.agg #[.pointer (some ⟨g, 0, none⟩)], .agg #[.int .i64 j, .int .i64 p, .int .i64 k, .int .i64 ax, .int .i64 ay, .int .i64 az, .int .i64 bx, .int .i64 by_, .int .i64 bz, .int .i64 cx, .int .i64 cy, .int .i64 cz, .int .i64 q]] w fun e' w' => e' = .returned (.tuple #[]) ∧ WP g B (l ++ numsOf 2 [j, p] ++ numsOf 1 [k] ++ numsOf 5 [ax, ay, az, bx, by_, bz, cx, cy, cz]) w' ∧ Aft g B w w' := by
  have HPw := Lib.hid hw
  obtain ⟨hB, hg⟩ := hw.size
  clear hw
  have HNK := Lib.hid hk
  have dk : decide (k = 0) = false := decide_eq_false hk
  have dk2 : (k == 0) = false := by simpa using hk
  clear hk
  go_enter Tryz.func55, Tryz.ntmps55
  go_upto_region 1 with fail
  have hR := Au.rows2 w (.cells #[.pointer (some ⟨g, 0, none⟩)] 71) (.cells #[.int .i64 j, .int .i64 p, .int .i64 k, .int .i64 ax, .int .i64 ay, .int .i64 az, .int .i64 bx, .int .i64 by_, .int .i64 bz, .int .i64 cx, .int .i64 cy, .int .i64 cz, .int .i64 q] 97)
  have HUx := Ve.below_n2 w (.cells #[.pointer (some ⟨g, 0, none⟩)] 71) (.cells #[.int .i64 j, .int .i64 p, .int .i64 k, .int .i64 ax, .int .i64 ay, .int .i64 az, .int .i64 bx, .int .i64 by_, .int .i64 bz, .int .i64 cx, .int .i64 cy, .int .i64 cz, .int .i64 q] 97)
  obtain ⟨y0, hy0⟩ : ∃ y0, (w.alloc (.cells #[.pointer (some ⟨g, 0, none⟩)] 71)).alloc (.cells #[.int .i64 j, .int .i64 p, .int .i64 k, .int .i64 ax, .int .i64 ay, .int .i64 az, .int .i64 bx, .int .i64 by_, .int .i64 bz, .int .i64 cx, .int .i64 cy, .int .i64 cz, .int .i64 q] 97) = y0 := ⟨_, rfl⟩
  rw [hy0] at hR HUx ⊢
  clear hy0
  have HP0 := Lib.hid (HPw.out.new HUx)
  have hz0 := HUx.size
  have HU0 := Lib.hid (Aft.of (g := g) (base := B) HUx)
  clear HUx
  obtain ⟨hr0_0, hr0_1⟩ := hR
  have c0_0 := cell_of_row _ _ 0 _ _ _ hr0_0
  have c1_0 := cell_of_row _ _ 0 _ _ _ hr0_1
  have c1_1 := cell_of_row _ _ 1 _ _ _ hr0_1
  have c1_2 := cell_of_row _ _ 2 _ _ _ hr0_1
  have c1_3 := cell_of_row _ _ 3 _ _ _ hr0_1
  have c1_4 := cell_of_row _ _ 4 _ _ _ hr0_1
  have c1_5 := cell_of_row _ _ 5 _ _ _ hr0_1
  have c1_6 := cell_of_row _ _ 6 _ _ _ hr0_1
  have c1_7 := cell_of_row _ _ 7 _ _ _ hr0_1
  have c1_8 := cell_of_row _ _ 8 _ _ _ hr0_1
  have c1_9 := cell_of_row _ _ 9 _ _ _ hr0_1
  have c1_10 := cell_of_row _ _ 10 _ _ _ hr0_1
  have c1_11 := cell_of_row _ _ 11 _ _ _ hr0_1
  have c1_12 := cell_of_row _ _ 12 _ _ _ hr0_1
  simp at c0_0 c1_0 c1_1 c1_2 c1_3 c1_4 c1_5 c1_6 c1_7 c1_8 c1_9 c1_10 c1_11 c1_12
  go_wp2_with fail
  clear c0_0 c1_0 c1_1 c1_2 c1_3 c1_4 c1_5 c1_6 c1_7 c1_8 c1_9 c1_10 c1_11 c1_12
  have hb1 := Ve.below_n1 y0 (.cells #[.int .i64 j, .int .i64 p] 3)
  have hp1 := HP0.out.new hb1
  have hb1 := Aft.of (g := g) (base := B) hb1
  have hN := heap_alloc_last y0 (.cells #[.int .i64 j, .int .i64 p] 3)
  obtain ⟨y1, hy1⟩ : ∃ y, y0.alloc (.cells #[.int .i64 j, .int .i64 p] 3) = y := ⟨_, rfl⟩
  have hs1 : y1.heap.size = y0.heap.size + 1 := by rw [← hy1]; simp
  rw [hy1] at hb1 hN hp1 ⊢
  clear hy1
  have HP1 := Lib.hid hp1
  have hz1 := hb1.size
  have hl1_0 := lt_heap hr0_0
  have hl1_1 := lt_heap hr0_1
  have hr1_0 := hb1.other _ _ _ _ (by omega) (by decide) hr0_0
  have hr1_1 := hb1.other _ _ _ _ (by omega) (by decide) hr0_1
  have HU1 := Lib.hid (HU0.out.trans hb1)
  clear hr0_0 hr0_1 HU0
  have hr1_2 := hN
  clear hN
  refine (whalf g B (l) [j, p] (y0.heap.size) 2 _ _ _ HP1.out hr1_2 rfl (by decide) (by omega) (by simp) (by first | omega | (simp only [List.length_append, numsOf_length, bytesOf_length, keysOf_length, List.length_cons, List.length_nil]; omega))).mono ?_
  rintro e y2 ⟨rfl, hp2, hb2⟩
  have HP2 := Lib.hid hp2
  have hz2 := hb2.size
  have hr2_0 := hb2.other _ _ _ _ (by omega) (by decide) hr1_0
  have hr2_1 := hb2.other _ _ _ _ (by omega) (by decide) hr1_1
  have hr2_2 := hb2.other _ _ _ _ (by omega) (by decide) hr1_2
  have HU2 := Lib.hid (HU1.out.trans hb2)
  clear hr1_0 hr1_1 hr1_2 HU1
  have c0_0 := cell_of_row _ _ 0 _ _ _ hr2_0
  have c1_0 := cell_of_row _ _ 0 _ _ _ hr2_1
  have c1_1 := cell_of_row _ _ 1 _ _ _ hr2_1
  have c1_2 := cell_of_row _ _ 2 _ _ _ hr2_1
  have c1_3 := cell_of_row _ _ 3 _ _ _ hr2_1
  have c1_4 := cell_of_row _ _ 4 _ _ _ hr2_1
  have c1_5 := cell_of_row _ _ 5 _ _ _ hr2_1
  have c1_6 := cell_of_row _ _ 6 _ _ _ hr2_1
  have c1_7 := cell_of_row _ _ 7 _ _ _ hr2_1
  have c1_8 := cell_of_row _ _ 8 _ _ _ hr2_1
  have c1_9 := cell_of_row _ _ 9 _ _ _ hr2_1
  have c1_10 := cell_of_row _ _ 10 _ _ _ hr2_1
  have c1_11 := cell_of_row _ _ 11 _ _ _ hr2_1
  have c1_12 := cell_of_row _ _ 12 _ _ _ hr2_1
  simp at c0_0 c1_0 c1_1 c1_2 c1_3 c1_4 c1_5 c1_6 c1_7 c1_8 c1_9 c1_10 c1_11 c1_12
  go_wp2_with fail
  clear c0_0 c1_0 c1_1 c1_2 c1_3 c1_4 c1_5 c1_6 c1_7 c1_8 c1_9 c1_10 c1_11 c1_12
  have hb3 := Ve.below_n1 y2 (.cells #[.int .i64 k] 3)
  have hp3 := HP2.out.new hb3
  have hb3 := Aft.of (g := g) (base := B) hb3
  have hN := heap_alloc_last y2 (.cells #[.int .i64 k] 3)
  obtain ⟨y3, hy3⟩ : ∃ y, y2.alloc (.cells #[.int .i64 k] 3) = y := ⟨_, rfl⟩
  have hs3 : y3.heap.size = y2.heap.size + 1 := by rw [← hy3]; simp
  rw [hy3] at hb3 hN hp3 ⊢
  clear hy3
  have HP3 := Lib.hid hp3
  have hz3 := hb3.size
  have hl3_0 := lt_heap hr2_0
  have hl3_1 := lt_heap hr2_1
  have hl3_2 := lt_heap hr2_2
  have hr3_0 := hb3.other _ _ _ _ (by omega) (by decide) hr2_0
  have hr3_1 := hb3.other _ _ _ _ (by omega) (by decide) hr2_1
  have hr3_2 := hb3.other _ _ _ _ (by omega) (by decide) hr2_2
  have HU3 := Lib.hid (HU2.out.trans hb3)
  clear hr2_0 hr2_1 hr2_2 HU2
  have hr3_3 := hN
  clear hN
  refine (wbyte g B (l ++ numsOf 2 [j, p]) [k] (y2.heap.size) 1 _ _ _ HP3.out hr3_3 rfl (by decide) (by omega) (by simp) (by first | omega | (simp only [List.length_append, numsOf_length, bytesOf_length, keysOf_length, List.length_cons, List.length_nil]; omega))).mono ?_
  rintro e y4 ⟨rfl, hp4, hb4⟩
  have HP4 := Lib.hid hp4
  have hz4 := hb4.size
  have hr4_0 := hb4.other _ _ _ _ (by omega) (by decide) hr3_0
  have hr4_1 := hb4.other _ _ _ _ (by omega) (by decide) hr3_1
  have hr4_2 := hb4.other _ _ _ _ (by omega) (by decide) hr3_2
  have hr4_3 := hb4.other _ _ _ _ (by omega) (by decide) hr3_3
  have HU4 := Lib.hid (HU3.out.trans hb4)
  clear hr3_0 hr3_1 hr3_2 hr3_3 HU3
  go_upto_region 3 with fail
  refine wp_region_held_drew (S := fun y => y.heap[w.heap.size]? = some (.cells #[.pointer (some ⟨g, 0, none⟩)] 71 (0, 0)) ∧ y.heap[w.heap.size + 1]? = some (.cells #[.int .i64 j, .int .i64 p, .int .i64 k, .int .i64 ax, .int .i64 ay, .int .i64 az, .int .i64 bx, .int .i64 by_, .int .i64 bz, .int .i64 cx, .int .i64 cy, .int .i64 cz, .int .i64 q] 97 (0, 0))) (by kernel_rfl) (⟨hr4_0, hr4_1⟩) (fun hS0 => ?_)
  obtain ⟨y5, hy5⟩ : ∃ y, y4.drew = y := ⟨_, rfl⟩
  have HU5 := Lib.hid (show Aft g B w y5 by rw [← hy5]; exact HU4.out.drew)
  have HP5 := Lib.hid (show WP g B _ y5 by rw [← hy5]; exact wp_drew HP4.out)
  have hz5 := HU5.out.size
  have hr5_0 : y5.heap[w.heap.size]? = some (.cells #[.pointer (some ⟨g, 0, none⟩)] 71 (0, 0)) := by rw [← hy5]; exact hr4_0
  have hr5_1 : y5.heap[w.heap.size + 1]? = some (.cells #[.int .i64 j, .int .i64 p, .int .i64 k, .int .i64 ax, .int .i64 ay, .int .i64 az, .int .i64 bx, .int .i64 by_, .int .i64 bz, .int .i64 cx, .int .i64 cy, .int .i64 cz, .int .i64 q] 97 (0, 0)) := by rw [← hy5]; exact hr4_1
  have hr5_2 : y5.heap[y0.heap.size]? = some (.cells #[.int .i64 j, .int .i64 p] 3 (0, 0)) := by rw [← hy5]; exact hr4_2
  have hr5_3 : y5.heap[y2.heap.size]? = some (.cells #[.int .i64 k] 3 (0, 0)) := by rw [← hy5]; exact hr4_3
  have hl5_0 := lt_heap hr5_0
  have hl5_1 := lt_heap hr5_1
  have hl5_2 := lt_heap hr5_2
  have hl5_3 := lt_heap hr5_3
  rw [hy5] at hS0 ⊢
  clear hy5
  refine wpAnyH_take (i := 0) (v := ?_) rfl (by kernel_rfl) (by kernel_rfl) (by kernel_rfl) (fun _ _ _ h => h) (Or.inl ⟨by kernel_rfl, by (intro wz hSz; go_simp; try with_reducible rfl)⟩) hS0 ?_
  go_simp
  refine wpAnyH_take (i := 1) (v := ?_) rfl (by kernel_rfl) (by kernel_rfl) (by kernel_rfl) (fun _ _ _ h => h) (Or.inl ⟨by kernel_rfl, by (intro wz hSz; have c0_0 := cell_of_row _ _ 0 _ _ _ hSz.1; simp at c0_0; go_simp; try with_reducible rfl)⟩) hS0 ?_
  go_simp
  refine wpAnyH_take (i := 2) (v := .agg #[.int .i64 j, .int .i64 p, .int .i64 k, .int .i64 ax, .int .i64 ay, .int .i64 az, .int .i64 bx, .int .i64 by_, .int .i64 bz, .int .i64 cx, .int .i64 cy, .int .i64 cz, .int .i64 q]) rfl (by kernel_rfl) (by kernel_rfl) (by kernel_rfl) (fun _ _ _ h => h) (Lr.yieldsIf_load_row (by kernel_rfl) 97 (.tmp 3) rfl (w.heap.size + 1) rfl 97 #[.int .i64 j, .int .i64 p, .int .i64 k, .int .i64 ax, .int .i64 ay, .int .i64 az, .int .i64 bx, .int .i64 by_, .int .i64 bz, .int .i64 cx, .int .i64 cy, .int .i64 cz, .int .i64 q] _ (fun yy hh => hh.2) Tryz.underlying97 rfl (by kernel_rfl)) hS0 ?_
  go_simp
  refine wpAnyH_ready (rs := [3]) (by kernel_rfl) (by simp) ?_
  refine AllReadyH.cons rfl (fun K hK => ?_) AllReadyH.nil
  go_simp
  go_wp2_with (go_at_call 99; refine (wcor_face j p k ax ay az bx by_ bz cx cy cz q HNK.out _).mono ?_; rintro e y6 ⟨⟨bc, rfl, hcor, hbc⟩, hq⟩; have hp6 := HP5.out.new hq; have hb6 := Aft.of (g := g) (base := B) hq; have HCOR := Lib.hid hcor; clear hcor hq)
  have HP6 := Lib.hid hp6
  have hz6 := hb6.size
  have hr6_0 := hb6.other _ _ _ _ (by omega) (by decide) hr5_0
  have hr6_1 := hb6.other _ _ _ _ (by omega) (by decide) hr5_1
  have hr6_2 := hb6.other _ _ _ _ (by omega) (by decide) hr5_2
  have hr6_3 := hb6.other _ _ _ _ (by omega) (by decide) hr5_3
  have HU6 := Lib.hid (HU5.out.trans hb6)
  refine hK.out _ _ (⟨hb6.other _ _ _ _ (by omega) (by decide) hS0.1, hb6.other _ _ _ _ (by omega) (by decide) hS0.2⟩) (fun hS6c => ?_)
  clear hK K
  refine wpAnyH_ready (rs := [4]) (by kernel_rfl) (by simp) ?_
  refine AllReadyH.cons rfl (fun K hK => ?_) AllReadyH.nil
  go_simp
  go_wp2_with (go_at_call 98; refine (wvec9 g B (l ++ numsOf 2 [j, p] ++ numsOf 1 [k]) bc 3 ax ay az bx by_ bz cx cy cz _ HP6.out HCOR.out (by omega) (by first | omega | (simp only [List.length_append, numsOf_length, bytesOf_length, keysOf_length, List.length_cons, List.length_nil]; omega))).mono ?_; rintro e y7 ⟨rfl, hp7, hb7⟩)
  have HP7 := Lib.hid hp7
  have hz7 := hb7.size
  have hr7_0 := hb7.other _ _ _ _ (by omega) (by decide) hr6_0
  have hr7_1 := hb7.other _ _ _ _ (by omega) (by decide) hr6_1
  have hr7_2 := hb7.other _ _ _ _ (by omega) (by decide) hr6_2
  have hr7_3 := hb7.other _ _ _ _ (by omega) (by decide) hr6_3
  have HU7 := Lib.hid (HU6.out.trans hb7)
  refine hK.out _ _ (⟨hb7.other _ _ _ _ (by omega) (by decide) hS6c.1, hb7.other _ _ _ _ (by omega) (by decide) hS6c.2⟩) (fun hS7c => ?_)
  clear hK K
  refine wpAnyH_done (by kernel_rfl) ?_ _
  have c1_0 := cell_of_row _ _ 0 _ _ _ hr7_1
  have c1_1 := cell_of_row _ _ 1 _ _ _ hr7_1
  have c1_2 := cell_of_row _ _ 2 _ _ _ hr7_1
  have c1_3 := cell_of_row _ _ 3 _ _ _ hr7_1
  have c1_4 := cell_of_row _ _ 4 _ _ _ hr7_1
  have c1_5 := cell_of_row _ _ 5 _ _ _ hr7_1
  have c1_6 := cell_of_row _ _ 6 _ _ _ hr7_1
  have c1_7 := cell_of_row _ _ 7 _ _ _ hr7_1
  have c1_8 := cell_of_row _ _ 8 _ _ _ hr7_1
  have c1_9 := cell_of_row _ _ 9 _ _ _ hr7_1
  have c1_10 := cell_of_row _ _ 10 _ _ _ hr7_1
  have c1_11 := cell_of_row _ _ 11 _ _ _ hr7_1
  have c1_12 := cell_of_row _ _ 12 _ _ _ hr7_1
  simp at c1_0 c1_1 c1_2 c1_3 c1_4 c1_5 c1_6 c1_7 c1_8 c1_9 c1_10 c1_11 c1_12
  go_wp2
  go_end0
  exact ⟨rfl, HP7.out, HU7.out⟩

set_option maxHeartbeats 8000000 in
set_option maxRecDepth 100000 in
theorem wshape_ball (g B : Nat) (l : List UInt8) (j p ax ay az bx by_ bz cx cy cz q : Int) (w : World) (hw : WP g B l w) (hl : l.length ≤ 10000000) : Calls Tryz.prog 55 #[.agg #[.pointer (some ⟨g, 0, none⟩)], .agg #[.int .i64 j, .int .i64 p, .int .i64 0, .int .i64 ax, .int .i64 ay, .int .i64 az, .int .i64 bx, .int .i64 by_, .int .i64 bz, .int .i64 cx, .int .i64 cy, .int .i64 cz, .int .i64 q]] w fun e' w' => e' = .returned (.tuple #[]) ∧ WP g B (l ++ numsOf 2 [j, p] ++ numsOf 1 [0] ++ numsOf 5 [ax, ay, az] ++ numsOf 5 [q]) w' ∧ Aft g B w w' := by
  have HPw := Lib.hid hw
  obtain ⟨hB, hg⟩ := hw.size
  clear hw
  go_enter Tryz.func55, Tryz.ntmps55
  go_upto_region 1 with fail
  have hR := Au.rows2 w (.cells #[.pointer (some ⟨g, 0, none⟩)] 71) (.cells #[.int .i64 j, .int .i64 p, .int .i64 0, .int .i64 ax, .int .i64 ay, .int .i64 az, .int .i64 bx, .int .i64 by_, .int .i64 bz, .int .i64 cx, .int .i64 cy, .int .i64 cz, .int .i64 q] 97)
  have HUx := Ve.below_n2 w (.cells #[.pointer (some ⟨g, 0, none⟩)] 71) (.cells #[.int .i64 j, .int .i64 p, .int .i64 0, .int .i64 ax, .int .i64 ay, .int .i64 az, .int .i64 bx, .int .i64 by_, .int .i64 bz, .int .i64 cx, .int .i64 cy, .int .i64 cz, .int .i64 q] 97)
  obtain ⟨y0, hy0⟩ : ∃ y0, (w.alloc (.cells #[.pointer (some ⟨g, 0, none⟩)] 71)).alloc (.cells #[.int .i64 j, .int .i64 p, .int .i64 0, .int .i64 ax, .int .i64 ay, .int .i64 az, .int .i64 bx, .int .i64 by_, .int .i64 bz, .int .i64 cx, .int .i64 cy, .int .i64 cz, .int .i64 q] 97) = y0 := ⟨_, rfl⟩
  rw [hy0] at hR HUx ⊢
  clear hy0
  have HP0 := Lib.hid (HPw.out.new HUx)
  have hz0 := HUx.size
  have HU0 := Lib.hid (Aft.of (g := g) (base := B) HUx)
  clear HUx
  obtain ⟨hr0_0, hr0_1⟩ := hR
  have c0_0 := cell_of_row _ _ 0 _ _ _ hr0_0
  have c1_0 := cell_of_row _ _ 0 _ _ _ hr0_1
  have c1_1 := cell_of_row _ _ 1 _ _ _ hr0_1
  have c1_2 := cell_of_row _ _ 2 _ _ _ hr0_1
  have c1_3 := cell_of_row _ _ 3 _ _ _ hr0_1
  have c1_4 := cell_of_row _ _ 4 _ _ _ hr0_1
  have c1_5 := cell_of_row _ _ 5 _ _ _ hr0_1
  have c1_6 := cell_of_row _ _ 6 _ _ _ hr0_1
  have c1_7 := cell_of_row _ _ 7 _ _ _ hr0_1
  have c1_8 := cell_of_row _ _ 8 _ _ _ hr0_1
  have c1_9 := cell_of_row _ _ 9 _ _ _ hr0_1
  have c1_10 := cell_of_row _ _ 10 _ _ _ hr0_1
  have c1_11 := cell_of_row _ _ 11 _ _ _ hr0_1
  have c1_12 := cell_of_row _ _ 12 _ _ _ hr0_1
  simp at c0_0 c1_0 c1_1 c1_2 c1_3 c1_4 c1_5 c1_6 c1_7 c1_8 c1_9 c1_10 c1_11 c1_12
  go_wp2_with fail
  clear c0_0 c1_0 c1_1 c1_2 c1_3 c1_4 c1_5 c1_6 c1_7 c1_8 c1_9 c1_10 c1_11 c1_12
  have hb1 := Ve.below_n1 y0 (.cells #[.int .i64 j, .int .i64 p] 3)
  have hp1 := HP0.out.new hb1
  have hb1 := Aft.of (g := g) (base := B) hb1
  have hN := heap_alloc_last y0 (.cells #[.int .i64 j, .int .i64 p] 3)
  obtain ⟨y1, hy1⟩ : ∃ y, y0.alloc (.cells #[.int .i64 j, .int .i64 p] 3) = y := ⟨_, rfl⟩
  have hs1 : y1.heap.size = y0.heap.size + 1 := by rw [← hy1]; simp
  rw [hy1] at hb1 hN hp1 ⊢
  clear hy1
  have HP1 := Lib.hid hp1
  have hz1 := hb1.size
  have hl1_0 := lt_heap hr0_0
  have hl1_1 := lt_heap hr0_1
  have hr1_0 := hb1.other _ _ _ _ (by omega) (by decide) hr0_0
  have hr1_1 := hb1.other _ _ _ _ (by omega) (by decide) hr0_1
  have HU1 := Lib.hid (HU0.out.trans hb1)
  clear hr0_0 hr0_1 HU0
  have hr1_2 := hN
  clear hN
  refine (whalf g B (l) [j, p] (y0.heap.size) 2 _ _ _ HP1.out hr1_2 rfl (by decide) (by omega) (by simp) (by first | omega | (simp only [List.length_append, numsOf_length, bytesOf_length, keysOf_length, List.length_cons, List.length_nil]; omega))).mono ?_
  rintro e y2 ⟨rfl, hp2, hb2⟩
  have HP2 := Lib.hid hp2
  have hz2 := hb2.size
  have hr2_0 := hb2.other _ _ _ _ (by omega) (by decide) hr1_0
  have hr2_1 := hb2.other _ _ _ _ (by omega) (by decide) hr1_1
  have hr2_2 := hb2.other _ _ _ _ (by omega) (by decide) hr1_2
  have HU2 := Lib.hid (HU1.out.trans hb2)
  clear hr1_0 hr1_1 hr1_2 HU1
  have c0_0 := cell_of_row _ _ 0 _ _ _ hr2_0
  have c1_0 := cell_of_row _ _ 0 _ _ _ hr2_1
  have c1_1 := cell_of_row _ _ 1 _ _ _ hr2_1
  have c1_2 := cell_of_row _ _ 2 _ _ _ hr2_1
  have c1_3 := cell_of_row _ _ 3 _ _ _ hr2_1
  have c1_4 := cell_of_row _ _ 4 _ _ _ hr2_1
  have c1_5 := cell_of_row _ _ 5 _ _ _ hr2_1
  have c1_6 := cell_of_row _ _ 6 _ _ _ hr2_1
  have c1_7 := cell_of_row _ _ 7 _ _ _ hr2_1
  have c1_8 := cell_of_row _ _ 8 _ _ _ hr2_1
  have c1_9 := cell_of_row _ _ 9 _ _ _ hr2_1
  have c1_10 := cell_of_row _ _ 10 _ _ _ hr2_1
  have c1_11 := cell_of_row _ _ 11 _ _ _ hr2_1
  have c1_12 := cell_of_row _ _ 12 _ _ _ hr2_1
  simp at c0_0 c1_0 c1_1 c1_2 c1_3 c1_4 c1_5 c1_6 c1_7 c1_8 c1_9 c1_10 c1_11 c1_12
  go_wp2_with fail
  clear c0_0 c1_0 c1_1 c1_2 c1_3 c1_4 c1_5 c1_6 c1_7 c1_8 c1_9 c1_10 c1_11 c1_12
  have hb3 := Ve.below_n1 y2 (.cells #[.int .i64 0] 3)
  have hp3 := HP2.out.new hb3
  have hb3 := Aft.of (g := g) (base := B) hb3
  have hN := heap_alloc_last y2 (.cells #[.int .i64 0] 3)
  obtain ⟨y3, hy3⟩ : ∃ y, y2.alloc (.cells #[.int .i64 0] 3) = y := ⟨_, rfl⟩
  have hs3 : y3.heap.size = y2.heap.size + 1 := by rw [← hy3]; simp
  rw [hy3] at hb3 hN hp3 ⊢
  clear hy3
  have HP3 := Lib.hid hp3
  have hz3 := hb3.size
  have hl3_0 := lt_heap hr2_0
  have hl3_1 := lt_heap hr2_1
  have hl3_2 := lt_heap hr2_2
  have hr3_0 := hb3.other _ _ _ _ (by omega) (by decide) hr2_0
  have hr3_1 := hb3.other _ _ _ _ (by omega) (by decide) hr2_1
  have hr3_2 := hb3.other _ _ _ _ (by omega) (by decide) hr2_2
  have HU3 := Lib.hid (HU2.out.trans hb3)
  clear hr2_0 hr2_1 hr2_2 HU2
  have hr3_3 := hN
  clear hN
  refine (wbyte g B (l ++ numsOf 2 [j, p]) [0] (y2.heap.size) 1 _ _ _ HP3.out hr3_3 rfl (by decide) (by omega) (by simp) (by first | omega | (simp only [List.length_append, numsOf_length, bytesOf_length, keysOf_length, List.length_cons, List.length_nil]; omega))).mono ?_
  rintro e y4 ⟨rfl, hp4, hb4⟩
  have HP4 := Lib.hid hp4
  have hz4 := hb4.size
  have hr4_0 := hb4.other _ _ _ _ (by omega) (by decide) hr3_0
  have hr4_1 := hb4.other _ _ _ _ (by omega) (by decide) hr3_1
  have hr4_2 := hb4.other _ _ _ _ (by omega) (by decide) hr3_2
  have hr4_3 := hb4.other _ _ _ _ (by omega) (by decide) hr3_3
  have HU4 := Lib.hid (HU3.out.trans hb4)
  clear hr3_0 hr3_1 hr3_2 hr3_3 HU3
  go_upto_region 3 with fail
  refine wp_region_held_drew (S := fun y => y.heap[w.heap.size]? = some (.cells #[.pointer (some ⟨g, 0, none⟩)] 71 (0, 0)) ∧ y.heap[w.heap.size + 1]? = some (.cells #[.int .i64 j, .int .i64 p, .int .i64 0, .int .i64 ax, .int .i64 ay, .int .i64 az, .int .i64 bx, .int .i64 by_, .int .i64 bz, .int .i64 cx, .int .i64 cy, .int .i64 cz, .int .i64 q] 97 (0, 0))) (by kernel_rfl) (⟨hr4_0, hr4_1⟩) (fun hS0 => ?_)
  obtain ⟨y5, hy5⟩ : ∃ y, y4.drew = y := ⟨_, rfl⟩
  have HU5 := Lib.hid (show Aft g B w y5 by rw [← hy5]; exact HU4.out.drew)
  have HP5 := Lib.hid (show WP g B _ y5 by rw [← hy5]; exact wp_drew HP4.out)
  have hz5 := HU5.out.size
  have hr5_0 : y5.heap[w.heap.size]? = some (.cells #[.pointer (some ⟨g, 0, none⟩)] 71 (0, 0)) := by rw [← hy5]; exact hr4_0
  have hr5_1 : y5.heap[w.heap.size + 1]? = some (.cells #[.int .i64 j, .int .i64 p, .int .i64 0, .int .i64 ax, .int .i64 ay, .int .i64 az, .int .i64 bx, .int .i64 by_, .int .i64 bz, .int .i64 cx, .int .i64 cy, .int .i64 cz, .int .i64 q] 97 (0, 0)) := by rw [← hy5]; exact hr4_1
  have hr5_2 : y5.heap[y0.heap.size]? = some (.cells #[.int .i64 j, .int .i64 p] 3 (0, 0)) := by rw [← hy5]; exact hr4_2
  have hr5_3 : y5.heap[y2.heap.size]? = some (.cells #[.int .i64 0] 3 (0, 0)) := by rw [← hy5]; exact hr4_3
  have hl5_0 := lt_heap hr5_0
  have hl5_1 := lt_heap hr5_1
  have hl5_2 := lt_heap hr5_2
  have hl5_3 := lt_heap hr5_3
  rw [hy5] at hS0 ⊢
  clear hy5
  refine wpAnyH_take (i := 0) (v := ?_) rfl (by kernel_rfl) (by kernel_rfl) (by kernel_rfl) (fun _ _ _ h => h) (Or.inl ⟨by kernel_rfl, by (intro wz hSz; go_simp; try with_reducible rfl)⟩) hS0 ?_
  go_simp
  refine wpAnyH_take (i := 1) (v := ?_) rfl (by kernel_rfl) (by kernel_rfl) (by kernel_rfl) (fun _ _ _ h => h) (Or.inl ⟨by kernel_rfl, by (intro wz hSz; have c0_0 := cell_of_row _ _ 0 _ _ _ hSz.1; simp at c0_0; go_simp; try with_reducible rfl)⟩) hS0 ?_
  go_simp
  refine wpAnyH_take (i := 2) (v := .agg #[.int .i64 j, .int .i64 p, .int .i64 0, .int .i64 ax, .int .i64 ay, .int .i64 az, .int .i64 bx, .int .i64 by_, .int .i64 bz, .int .i64 cx, .int .i64 cy, .int .i64 cz, .int .i64 q]) rfl (by kernel_rfl) (by kernel_rfl) (by kernel_rfl) (fun _ _ _ h => h) (Lr.yieldsIf_load_row (by kernel_rfl) 97 (.tmp 3) rfl (w.heap.size + 1) rfl 97 #[.int .i64 j, .int .i64 p, .int .i64 0, .int .i64 ax, .int .i64 ay, .int .i64 az, .int .i64 bx, .int .i64 by_, .int .i64 bz, .int .i64 cx, .int .i64 cy, .int .i64 cz, .int .i64 q] _ (fun yy hh => hh.2) Tryz.underlying97 rfl (by kernel_rfl)) hS0 ?_
  go_simp
  refine wpAnyH_ready (rs := [3]) (by kernel_rfl) (by simp) ?_
  refine AllReadyH.cons rfl (fun K hK => ?_) AllReadyH.nil
  go_simp
  go_wp2_with (go_at_call 99; refine (wcor_ball j p ax ay az bx by_ bz cx cy cz q _).mono ?_; rintro e y6 ⟨⟨bc, rfl, hcor, hbc⟩, hq⟩; have hp6 := HP5.out.new hq; have hb6 := Aft.of (g := g) (base := B) hq; have HCOR := Lib.hid hcor; clear hcor hq)
  have HP6 := Lib.hid hp6
  have hz6 := hb6.size
  have hr6_0 := hb6.other _ _ _ _ (by omega) (by decide) hr5_0
  have hr6_1 := hb6.other _ _ _ _ (by omega) (by decide) hr5_1
  have hr6_2 := hb6.other _ _ _ _ (by omega) (by decide) hr5_2
  have hr6_3 := hb6.other _ _ _ _ (by omega) (by decide) hr5_3
  have HU6 := Lib.hid (HU5.out.trans hb6)
  refine hK.out _ _ (⟨hb6.other _ _ _ _ (by omega) (by decide) hS0.1, hb6.other _ _ _ _ (by omega) (by decide) hS0.2⟩) (fun hS6c => ?_)
  clear hK K
  refine wpAnyH_ready (rs := [4]) (by kernel_rfl) (by simp) ?_
  refine AllReadyH.cons rfl (fun K hK => ?_) AllReadyH.nil
  go_simp
  go_wp2_with (go_at_call 98; refine (wvec g B (l ++ numsOf 2 [j, p] ++ numsOf 1 [0]) bc 1 _ ax ay az _ HP6.out HCOR.out (by decide) (by omega) (by first | omega | (simp only [List.length_append, numsOf_length, bytesOf_length, keysOf_length, List.length_cons, List.length_nil]; omega))).mono ?_; rintro e y7 ⟨rfl, hp7, hb7⟩)
  have HP7 := Lib.hid hp7
  have hz7 := hb7.size
  have hr7_0 := hb7.other _ _ _ _ (by omega) (by decide) hr6_0
  have hr7_1 := hb7.other _ _ _ _ (by omega) (by decide) hr6_1
  have hr7_2 := hb7.other _ _ _ _ (by omega) (by decide) hr6_2
  have hr7_3 := hb7.other _ _ _ _ (by omega) (by decide) hr6_3
  have HU7 := Lib.hid (HU6.out.trans hb7)
  refine hK.out _ _ (⟨hb7.other _ _ _ _ (by omega) (by decide) hS6c.1, hb7.other _ _ _ _ (by omega) (by decide) hS6c.2⟩) (fun hS7c => ?_)
  clear hK K
  refine wpAnyH_done (by kernel_rfl) ?_ _
  have c0_0 := cell_of_row _ _ 0 _ _ _ hr7_0
  have c1_0 := cell_of_row _ _ 0 _ _ _ hr7_1
  have c1_1 := cell_of_row _ _ 1 _ _ _ hr7_1
  have c1_2 := cell_of_row _ _ 2 _ _ _ hr7_1
  have c1_3 := cell_of_row _ _ 3 _ _ _ hr7_1
  have c1_4 := cell_of_row _ _ 4 _ _ _ hr7_1
  have c1_5 := cell_of_row _ _ 5 _ _ _ hr7_1
  have c1_6 := cell_of_row _ _ 6 _ _ _ hr7_1
  have c1_7 := cell_of_row _ _ 7 _ _ _ hr7_1
  have c1_8 := cell_of_row _ _ 8 _ _ _ hr7_1
  have c1_9 := cell_of_row _ _ 9 _ _ _ hr7_1
  have c1_10 := cell_of_row _ _ 10 _ _ _ hr7_1
  have c1_11 := cell_of_row _ _ 11 _ _ _ hr7_1
  have c1_12 := cell_of_row _ _ 12 _ _ _ hr7_1
  simp at c0_0 c1_0 c1_1 c1_2 c1_3 c1_4 c1_5 c1_6 c1_7 c1_8 c1_9 c1_10 c1_11 c1_12
  go_wp2_with fail
  clear c0_0 c1_0 c1_1 c1_2 c1_3 c1_4 c1_5 c1_6 c1_7 c1_8 c1_9 c1_10 c1_11 c1_12
  have hb8 := Ve.below_n1 y7 (.cells #[.int .i64 q] 39)
  have hp8 := HP7.out.new hb8
  have hb8 := Aft.of (g := g) (base := B) hb8
  have hN := heap_alloc_last y7 (.cells #[.int .i64 q] 39)
  obtain ⟨y8, hy8⟩ : ∃ y, y7.alloc (.cells #[.int .i64 q] 39) = y := ⟨_, rfl⟩
  have hs8 : y8.heap.size = y7.heap.size + 1 := by rw [← hy8]; simp
  rw [hy8] at hb8 hN hp8 ⊢
  clear hy8
  have HP8 := Lib.hid hp8
  have hz8 := hb8.size
  have hl8_0 := lt_heap hr7_0
  have hl8_1 := lt_heap hr7_1
  have hl8_2 := lt_heap hr7_2
  have hl8_3 := lt_heap hr7_3
  have hr8_0 := hb8.other _ _ _ _ (by omega) (by decide) hr7_0
  have hr8_1 := hb8.other _ _ _ _ (by omega) (by decide) hr7_1
  have hr8_2 := hb8.other _ _ _ _ (by omega) (by decide) hr7_2
  have hr8_3 := hb8.other _ _ _ _ (by omega) (by decide) hr7_3
  have HU8 := Lib.hid (HU7.out.trans hb8)
  clear hr7_0 hr7_1 hr7_2 hr7_3 HU7
  have hr8_4 := hN
  clear hN
  refine (wfix g B (l ++ numsOf 2 [j, p] ++ numsOf 1 [0] ++ numsOf 5 [ax, ay, az]) [q] (y7.heap.size) 1 _ _ _ HP8.out hr8_4 rfl (by decide) (by omega) (by simp) (by first | omega | (simp only [List.length_append, numsOf_length, bytesOf_length, keysOf_length, List.length_cons, List.length_nil]; omega))).mono ?_
  rintro e y9 ⟨rfl, hp9, hb9⟩
  have HP9 := Lib.hid hp9
  have hz9 := hb9.size
  have hr9_0 := hb9.other _ _ _ _ (by omega) (by decide) hr8_0
  have hr9_1 := hb9.other _ _ _ _ (by omega) (by decide) hr8_1
  have hr9_2 := hb9.other _ _ _ _ (by omega) (by decide) hr8_2
  have hr9_3 := hb9.other _ _ _ _ (by omega) (by decide) hr8_3
  have hr9_4 := hb9.other _ _ _ _ (by omega) (by decide) hr8_4
  have HU9 := Lib.hid (HU8.out.trans hb9)
  clear hr8_0 hr8_1 hr8_2 hr8_3 hr8_4 HU8
  go_wp2
  go_end0
  exact ⟨rfl, HP9.out, HU9.out⟩

end Go.Proofs.YtfbppiamlolfpaaGreat.Jw
