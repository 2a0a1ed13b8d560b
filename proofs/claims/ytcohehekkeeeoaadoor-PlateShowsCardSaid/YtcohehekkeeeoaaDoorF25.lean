/- Layer 21 (plate): a picture as a file, by the program. -/
import Derived.Test.YtcohehekkeeeoaaDoorF21
import Derived.Test.YtcohehekkeeeoaaDoorF17
import Derived.Deep.RegionHeld
namespace Go.Proofs.YtcohehekkeeeoaaDoor.Pg
open Go Go.RowKit Go.Proofs.YtcohehekkeeeoaaDoor Go.Proofs.YtcohehekkeeeoaaDoor.Re Go.Proofs.YtcohehekkeeeoaaDoor.Au
set_option linter.unusedVariables false
set_option linter.unusedSimpArgs false

theorem size_u8 (W : World) : (sizeOf (Tryd.prog.elem 69)).run Tryd.prog W = .ok 1 W := by
  have h : Tryd.prog.elem 69 = 5 := by kernel_rfl
  rw [h]
  have hi : (Tryd.prog.info? 5).map (·.size) = some 1 := by kernel_rfl
  cases hq : Tryd.prog.info? 5 with
  | none => rw [hq] at hi; simp at hi
  | some i => rw [hq] at hi; simp at hi; simp [sizeOf, typeInfo, hq, hi]

theorem slice3 (q : Nat) (W : World) : (Instr.sliceAt 69 (.pointer (some ⟨q, 0, none⟩)) none none none).run Tryd.prog W = .ok (.slice (some ⟨q, 0, none⟩) 3 3) W := by
  have hu : Tryd.prog.underlying 69 = some (.array (Tryd.prog.arrayLen 69) (Tryd.prog.elem 69)) := by kernel_rfl
  have hl : Tryd.prog.arrayLen 69 = 3 := by kernel_rfl
  rw [run_sliceAt_array_all W 69 ⟨q, 0, none⟩ hu, size_u8, hl]
  rfl

theorem cells3 (w : World) (x y z : Value) (t : TypeId) : ∀ j u, ([x, y, z] : List Value)[j]? = some u → (w.alloc (.cells #[x, y, z] t)).cell? ((⟨w.heap.size, 0, none⟩ : Addr).add j) = some u := by
  intro j u hu
  rw [add_at, Nat.zero_add, cell_of_row _ _ j _ _ _ (heap_alloc_last w _)]
  simpa using hu

theorem drawnB2 {B : Nat} {w wr : World} (h : Below B w wr) : Below B w wr.drew := h.drew

set_option maxHeartbeats 2000000 in
set_option maxRecDepth 100000 in
theorem encode_no (W H : Int) (a : Option Addr) (n c : Nat) (w : World) (h : ¬ Fm.okSh W H n) : Calls Tryd.prog 20 #[.agg #[.int .i64 W, .int .i64 H, .slice a n c]] w fun e' w' => e' = .returned (.tuple #[.slice none 0 0, .int .i64 1]) ∧ Below w.heap.size w w' := by
  have k := fun w => pright_any W H a n c w
  rw [decide_eq_false h] at k
  clear h
  go_enter Tryd.func20, Tryd.ntmps20
  go_upto_region 1 with fail
  have hr0 := heap_alloc_last w (.cells #[.int .i64 W, .int .i64 H, .slice a n c] 44)
  have hb0 := Ve.below_n1 w (.cells #[.int .i64 W, .int .i64 H, .slice a n c] 44)
  obtain ⟨y0, hy0⟩ : ∃ y0, w.alloc (.cells #[.int .i64 W, .int .i64 H, .slice a n c] 44) = y0 := ⟨_, rfl⟩
  rw [hy0] at hr0 hb0 ⊢
  clear hy0
  have c0 := cell_of_row _ _ 0 _ _ _ hr0
  have c1 := cell_of_row _ _ 1 _ _ _ hr0
  have c2 := cell_of_row _ _ 2 _ _ _ hr0
  simp at c0 c1 c2
  have HU := Lib.hid hb0
  clear hb0
  go_wp2_with (go_at_call 17; refine (k _).mono ?_; rintro e y1 ⟨rfl, hb1⟩)
  go_ret2
  exact ⟨rfl, HU.out.trans (hb1.mono HU.out.size)⟩

set_option maxHeartbeats 4000000 in
set_option maxRecDepth 100000 in
theorem encode_yes (W H : Int) (wn hn : Nat) (a : Option Addr) (n c : Nat) (D : List UInt8) (w : World) (hW : W = wn) (hH : H = hn) (h : Fm.okSh W H n) (hD : Dt w a n D) : Calls Tryd.prog 20 #[.agg #[.int .i64 W, .int .i64 H, .slice a n c]] w fun e' w' => ∃ v, e' = .returned (.tuple #[v, .int .i64 0]) ∧ OwE w' w.heap.size v (headL wn hn ++ D).length (vals (headL wn hn ++ D)) ∧ Below w.heap.size w w' := by
  have k := fun w => pright_any W H a n c w
  rw [decide_eq_true h] at k
  obtain ⟨i0, hi, hz0, hz1, hz2⟩ := info_parts infoByte
  have hsz := h.1
  have hb4 : n ≤ 4096 := by have := h.2; have := (Fm.okSz_mul h.1).2; omega
  have h1 : 1 ≤ wn := by have := h.1.1; omega
  have h2 : wn ≤ 64 := by have := h.1.2.1; omega
  have h3 : 1 ≤ hn := by have := h.1.2.2.1; omega
  have h4 : hn ≤ 64 := by have := h.1.2.2.2; omega
  have HW := Lib.hid hW
  have HH := Lib.hid hH
  have HD := Lib.hid hD
  have hlen := head_len wn hn
  obtain ⟨B, hB⟩ : ∃ B, B = w.heap.size := ⟨_, rfl⟩
  clear hW hH hD h hsz
  go_enter Tryd.func20, Tryd.ntmps20
  go_upto_region 1 with fail
  rw [← hB]
  have hr0 := heap_alloc_last w (.cells #[.int .i64 W, .int .i64 H, .slice a n c] 44)
  rw [← hB] at hr0
  have hb0 : Below B w (w.alloc (.cells #[.int .i64 W, .int .i64 H, .slice a n c] 44)) := by rw [hB]; exact Ve.below_n1 w _
  have hd0 := HD.out.on (Ve.below_n1 w (.cells #[.int .i64 W, .int .i64 H, .slice a n c] 44))
  obtain ⟨y0, hy0⟩ : ∃ y0, w.alloc (.cells #[.int .i64 W, .int .i64 H, .slice a n c] 44) = y0 := ⟨_, rfl⟩
  rw [hy0] at hr0 hb0 hd0 ⊢
  have HBS := Lib.hid hB
  clear hy0 hB
  have hl0 := lt_heap hr0
  have c0 := cell_of_row _ _ 0 _ _ _ hr0
  have c1 := cell_of_row _ _ 1 _ _ _ hr0
  have c2 := cell_of_row _ _ 2 _ _ _ hr0
  simp at c0 c1 c2
  have HU0 := Lib.hid hb0
  have HD0 := Lib.hid hd0
  clear hb0 hd0
  go_upto_region 3 with (go_at_call 17; refine (k _).mono ?_; rintro e y1 ⟨rfl, hb1⟩)
  have hr1 := (hb1.block B hl0).trans hr0
  have HU1 := Lib.hid (HU0.out.trans (hb1.mono (by omega)))
  have HD1 := Lib.hid (HD0.out.on hb1)
  have hl1 := lt_heap hr1
  have d0 := cell_of_row _ _ 0 _ _ _ hr1
  have d1 := cell_of_row _ _ 1 _ _ _ hr1
  have d2 := cell_of_row _ _ 2 _ _ _ hr1
  simp at d0 d1 d2
  clear hb1 hr0 c0 c1 c2 k
  go_wp2_with fail
  refine (head_any W H wn hn HW.out HH.out h1 h2 h3 h4 y1).mono ?_
  rintro e y2 ⟨v2, rfl, ho2, hb2⟩
  obtain ⟨a2, k2, hv2⟩ := ho2.form
  subst hv2
  have hr2 := (hb2.block B hl1).trans hr1
  have HU2 := Lib.hid (HU1.out.trans (hb2.mono (by omega)))
  have HD2 := Lib.hid (HD1.out.on hb2)
  have HO2 := Lib.hid (ho2.mono (show B ≤ y1.heap.size by omega))
  obtain ⟨g2, hg2⟩ : ∃ g, g = (headL wn hn).length := ⟨_, rfl⟩
  rw [← hg2] at HO2 hlen ⊢
  have HG2 := Lib.hid hg2
  clear hb2 ho2 hr1 d0 d1 d2 hg2
  have c0 := cell_of_row _ _ 0 _ _ _ hr2
  have c1 := cell_of_row _ _ 1 _ _ _ hr2
  have c2 := cell_of_row _ _ 2 _ _ _ hr2
  simp at c0 c1 c2
  have hl2 := lt_heap hr2
  go_upto_region 5 with fail
  go_loopw [4, 16] (fun b i wr => ∃ (k m : Nat) (ab : Option Addr) (cb : Nat), k ≤ n ∧ Hid (m = g2 + 3 * k) ∧ i = .int .i64 k ∧ b = .slice ab m cb ∧ Hid (OwE wr B (.slice ab m cb) m (vals (headL wn hn ++ D.take (k * 3)))) ∧ Hid (Below B w wr) ∧ B + 1 ≤ wr.heap.size) (fun _ i _ => n - (intOf i).toNat)
  case atStart => exact ⟨0, g2, a2, k2, by omega, Lib.hid (by omega), rfl, rfl, Lib.hid (by simpa using HO2.out), HU2, by omega⟩
  case round =>
    obtain ⟨k, m, ab, cb, hk, HM, rfl, rfl, HO, HU, hwl⟩ := hrel
    have HDD := Lib.hid (HD.out.on (show Below w.heap.size w wr by rw [← HBS.out]; exact HU.out))
    by_cases hlt : k < n
    · obtain ⟨b, o, ha, e0, e1, e2⟩ := HDD.out.at hlt
      subst ha
      obtain ⟨x, hx⟩ : ∃ x : Int, x = ((bn D (k * 3) : Nat) : Int) := ⟨_, rfl⟩
      obtain ⟨y, hy⟩ : ∃ y : Int, y = ((bn D (k * 3 + 1) : Nat) : Int) := ⟨_, rfl⟩
      obtain ⟨z, hz⟩ : ∃ z : Int, z = ((bn D (k * 3 + 2) : Nat) : Int) := ⟨_, rfl⟩
      rw [← hx] at e0
      rw [← hy] at e1
      rw [← hz] at e2
      have HX := Lib.hid hx
      have HY := Lib.hid hy
      have HZ := Lib.hid hz
      clear hx hy hz
      go_upto_region 7 with fail
      have hsl : ∀ W, (Instr.sliceAt 69 (.pointer (some ⟨wr.heap.size, 0, none⟩)) none none none).run Tryd.prog W = .ok (.slice (some ⟨wr.heap.size, 0, none⟩) 3 3) W := fun W => slice3 _ W
      have HC := Lib.hid (cells3 wr (.int .u8 x) (.int .u8 y) (.int .u8 z) 69)
      have HO1 := Lib.hid (HO.out.alloc (.cells #[.int .u8 x, .int .u8 y, .int .u8 z] 69))
      have HU1 := Lib.hid (HU.out.alloc (by omega : B ≤ wr.heap.size) (.cells #[.int .u8 x, .int .u8 y, .int .u8 z] 69))
      have hs1 : (wr.alloc (.cells #[.int .u8 x, .int .u8 y, .int .u8 z] 69)).heap.size = wr.heap.size + 1 := by simp
      have HM0 := Lib.hid (show 0 < m by have := HM.out; omega)
      have hmb : m ≤ 13000 := by have := HM.out; omega
      obtain ⟨q, hq⟩ : ∃ q, q = wr.heap.size := ⟨_, rfl⟩
      obtain ⟨w1, hw1⟩ : ∃ w1, wr.alloc (.cells #[.int .u8 x, .int .u8 y, .int .u8 z] 69) = w1 := ⟨_, rfl⟩
      rw [hw1] at HC HO1 HU1 hs1 ⊢
      rw [← hq] at HC hsl hs1 ⊢
      have hqb : B + 1 ≤ q := by omega
      clear hw1 hq e0 e1 e2
      go_upto_region 8 with (at_builtin; go_loud (refine wpList_append_E _ rfl _ _ 56 rfl B i0 (.int .u8 0) Tryd.underlying56 hi hz0 rfl hz1 hz2 _ m _ rfl HO1.out HM0.out ⟨q, 0, none⟩ 3 3 [.int .u8 x, .int .u8 y, .int .u8 z] rfl rfl HC.out (by simp [Value.oneCell']) ?d1 ?d2 ?d3 ?_))
      case d1 => unfold maxLen; omega
      case d2 => omega
      case d3 => omega
      intro v3 w2 ho2 hg2
      have HU2' := Lib.hid (HU1.out.grown hg2 (show B ≤ w1.heap.size by omega) (fun q hq => (HO1.out.lt q hq).1))
      have hs2 : B + 1 ≤ w2.heap.size := by have := hg2.size; omega
      have hx : vals (headL wn hn ++ D.take (k * 3)) ++ [.int .u8 x, .int .u8 y, .int .u8 z] = vals (headL wn hn ++ D.take ((k + 1) * 3)) := by
        rw [vals_append, vals_append, take3 (by have := HD.out.1; omega), HX.out, HY.out, HZ.out, List.append_assoc]
      rw [hx] at ho2
      obtain ⟨a3, c3, hv3⟩ := ho2.form
      subst hv3
      have HO3 := Lib.hid ho2
      clear ho2 hg2 hx HC HO1 HU1 hsl hs1 HO HU
      go_wp2
      go_roundw
      case rel => exact ⟨k + 1, m + 3, a3, c3, by omega, Lib.hid (by have := HM.out; omega), by go_num, rfl, HO3, HU2', hs2⟩
      case measure => simp [intOf]; omega
    · obtain rfl : k = n := by omega
      have hx : headL wn hn ++ D.take (k * 3) = headL wn hn ++ D := by rw [List.take_of_length_le (by have := HD.out.1; omega)]
      have hy := HO.out
      rw [hx] at hy
      have hm : m = (headL wn hn ++ D).length := by have := HM.out; have := HG2.out; have := HD.out.1; rw [List.length_append]; omega
      have HF := Lib.hid (show OwE wr w.heap.size (.slice ab m cb) (headL wn hn ++ D).length (vals (headL wn hn ++ D)) by rw [← hm, ← HBS.out]; exact hy)
      have HB := Lib.hid (show Below w.heap.size w wr by rw [← HBS.out]; exact HU.out)
      clear hx hy hm HDD
      go_wp2
      go_ret2
      exact ⟨_, rfl, HF.out, HB.out⟩

end Go.Proofs.YtcohehekkeeeoaaDoor.Pg

/- Layer 21 (plate): how many bytes a file has; the document's example is met. -/
namespace Go.Proofs.YtcohehekkeeeoaaDoor.Pg
open Go Go.RowKit Go.Proofs.YtcohehekkeeeoaaDoor Go.Proofs.YtcohehekkeeeoaaDoor.Re Go.Proofs.YtcohehekkeeeoaaDoor.Au
set_option linter.unusedVariables false
set_option linter.unusedSimpArgs false

set_option maxHeartbeats 4000000 in
set_option maxRecDepth 100000 in
theorem bytes_in (x y : Int) (n m : Nat) (hx : x = n) (hy : y = m) (h : Fm.okSz x y) (M N : Int) (hM : M = x * y) (hN : N = (headL n m).length + 3 * M) (w : World) : Calls Tryd.prog 25 #[.agg #[.int .i64 x, .int .i64 y]] w fun e w' => e = .returned (.int .i64 N) ∧ Below w.heap.size w w' := by
  have HX := Lib.hid hx
  have HY := Lib.hid hy
  have HOK := Lib.hid h
  have HM := Lib.hid hM
  have h1 : 1 ≤ n := by have := h.1; omega
  have h2 : n ≤ 64 := by have := h.2.1; omega
  have h3 : 1 ≤ m := by have := h.2.2.1; omega
  have h4 : m ≤ 64 := by have := h.2.2.2; omega
  have hm1 : 1 ≤ M := by have := (Fm.okSz_mul h).1; omega
  have hm2 : M ≤ 4096 := by have := (Fm.okSz_mul h).2; omega
  have hlen := head_len n m
  obtain ⟨L, hL⟩ : ∃ L, L = (headL n m).length := ⟨_, rfl⟩
  have hw1 : IntKind.i64.wrap (3 * M) = 3 * M := by rw [IntKind.wrap_i64]; omega
  have hw2 : IntKind.i64.wrap (((headL n m).length : Int) + 3 * M) = N := by rw [hN, IntKind.wrap_i64]; omega
  have k := fun w => Fm.szright_any x y w
  rw [decide_eq_true h] at k
  clear hx hy h hM hN hL
  go_enter Tryd.func25, Tryd.ntmps25
  go_upto_region 1 with fail
  have hr0 := heap_alloc_last w (.cells #[.int .i64 x, .int .i64 y] 33)
  have hb0 := Ve.below_n1 w (.cells #[.int .i64 x, .int .i64 y] 33)
  obtain ⟨y9, hy9⟩ : ∃ y9, w.alloc (.cells #[.int .i64 x, .int .i64 y] 33) = y9 := ⟨_, rfl⟩
  rw [hy9] at hr0 hb0 ⊢
  clear hy9
  have c0 := cell_of_row _ _ 0 _ _ _ hr0
  have c1 := cell_of_row _ _ 1 _ _ _ hr0
  simp at c0 c1
  have HU := Lib.hid hb0
  have hl9 := lt_heap hr0
  clear hb0
  go_upto_region 3 with (go_at_call 48; refine (k _).mono ?_; rintro e y0 ⟨rfl, hb1⟩)
  have HR := Lib.hid ((hb1.block _ hl9).trans hr0)
  have HB0 := Lib.hid (HU.out.trans (hb1.mono HU.out.size))
  have hl0 := lt_heap HR.out
  have hS00 : Below y0.heap.size y0 y0.drew := (Below.refl _ y0).drew
  clear hb1 hr0 hl9 c0 c1 k
  refine wp_region_held_drew (S := Below y0.heap.size y0) (by kernel_rfl) (hS00) (fun hS0 => ?_)
  refine wpAnyH_take (i := 0) (v := ?_) rfl (by kernel_rfl) (by kernel_rfl) (by kernel_rfl) (fun _ _ _ h => h) (Or.inl ⟨by kernel_rfl, by (intro wz hSz; have hc_ := (hSz.block w.heap.size hl0).trans HR.out; have cq0_ := cell_of_row _ _ 0 _ _ _ hc_; have cq1_ := cell_of_row _ _ 1 _ _ _ hc_; simp at cq0_ cq1_; go_simp; try with_reducible rfl)⟩) hS0 ?_
  go_simp
  refine wpAnyH_take (i := 3) (v := ?_) rfl (by kernel_rfl) (by kernel_rfl) (by kernel_rfl) (fun _ _ _ h => h) (Or.inl ⟨by kernel_rfl, by (intro wz hSz; have hc_ := (hSz.block w.heap.size hl0).trans HR.out; have cq0_ := cell_of_row _ _ 0 _ _ _ hc_; have cq1_ := cell_of_row _ _ 1 _ _ _ hc_; simp at cq0_ cq1_; go_simp; try with_reducible rfl)⟩) hS0 ?_
  go_simp
  refine wpAnyH_ready (rs := [1]) (by kernel_rfl) (by simp) ?_
  refine AllReadyH.cons rfl (fun K hK => ?_) AllReadyH.nil
  go_wp2_with fail
  refine (head_any x y n m HX.out HY.out h1 h2 h3 h4 _).mono ?_
  rintro e z1 ⟨v1, rfl, ho1, hb1⟩
  obtain ⟨a1, c1, hv1⟩ := ho1.form
  subst hv1
  clear ho1
  have hS1_ := hS0.trans (hb1.mono hS0.size)
  clear hb1
  refine hK.out _ _ (hS1_) (fun hS1 => ?_)
  clear hK K
  refine wpAnyH_take (i := 2) (v := ?_) rfl (by kernel_rfl) (by kernel_rfl) (by kernel_rfl) (fun _ _ _ h => h) (Or.inl ⟨by kernel_rfl, by (intro wz hSz; go_simp; try with_reducible rfl)⟩) hS1 ?_
  go_simp
  refine wpAnyH_ready (rs := [4]) (by kernel_rfl) (by simp) ?_
  refine AllReadyH.cons rfl (fun K hK => ?_) AllReadyH.nil
  go_wp2_with fail
  refine ((show Calls _ _ _ _ (fun e w' => e = .returned (.int .i64 M) ∧ Below _ _ w') from by rw [HM.out]; exact Fm.pix_ok x y HOK.out _)).mono ?_
  rintro e z2 ⟨rfl, hb2⟩
  have hS2_ := hS1.trans (hb2.mono hS1.size)
  clear hb2
  refine hK.out _ _ (hS2_) (fun hS2 => ?_)
  clear hK K
  refine wpAnyH_take (i := 5) (v := ?_) rfl (by kernel_rfl) (by kernel_rfl) (by kernel_rfl) (fun _ _ _ h => h) (Or.inl ⟨by kernel_rfl, by (intro wz hSz; go_simp; try with_reducible rfl)⟩) hS2 ?_
  go_simp
  refine wpAnyH_take (i := 6) (v := ?_) rfl (by kernel_rfl) (by kernel_rfl) (by kernel_rfl) (fun _ _ _ h => h) (Or.inl ⟨by kernel_rfl, by (intro wz hSz; go_simp; try with_reducible rfl)⟩) hS2 ?_
  go_simp
  refine wpAnyH_take (i := 7) (v := ?_) rfl (by kernel_rfl) (by kernel_rfl) (by kernel_rfl) (fun _ _ _ h => h) (Or.inl ⟨by kernel_rfl, by (intro wz hSz; go_simp; try with_reducible rfl)⟩) hS2 ?_
  go_simp
  refine wpAnyH_done (by kernel_rfl) ?_ _
  have HF := Lib.hid (HB0.out.trans (hS2.mono HB0.out.size))
  go_wp2
  go_ret
  exact ⟨rfl, HF.out⟩

theorem one_len : (headL 1 1 ++ [0, 0, 0]).length = 14 := by decide +kernel

theorem head11 : (headL 1 1).length = 11 := by decide +kernel

set_option maxHeartbeats 2000000 in
set_option maxRecDepth 100000 in
theorem awake_any (w : World) : Calls Tryd.prog 7 #[] w fun e w' => e = .returned (.bool true) ∧ Below w.heap.size w w' := by
  have hok : Fm.okSz 1 1 := by unfold Fm.okSz; omega
  have hsh : Fm.okSh 1 1 1 := ⟨hok, rfl⟩
  go_enter Tryd.func7, Tryd.ntmps7
  go_wp2_with fail
  have hr := heap_alloc_last w (.cells #[.int .u8 0, .int .u8 0, .int .u8 0] 69)
  have hb := Ve.below_n1 w (.cells #[.int .u8 0, .int .u8 0, .int .u8 0] 69)
  have hD : Dt (w.alloc (.cells #[.int .u8 0, .int .u8 0, .int .u8 0] 69)) (some ⟨w.heap.size, 0, none⟩) 1 [0, 0, 0] := ⟨rfl, fun j u hu => ⟨w.heap.size, 0, rfl, by rw [Nat.zero_add, cell_of_row _ _ j _ _ _ hr]; simpa [vals] using hu⟩⟩
  refine (encode_yes 1 1 1 1 (some ⟨w.heap.size, 0, none⟩) 1 1 [0, 0, 0] _ rfl rfl hsh hD).mono ?_
  rintro e y1 ⟨v1, rfl, ho1, hb1⟩
  rw [one_len] at ho1
  obtain ⟨a1, c1, hv1⟩ := ho1.form
  subst hv1
  have HB1 := Lib.hid (hb.trans (hb1.mono hb.size))
  clear ho1 hb1 hr hb hD
  go_wp2_with fail
  refine (bytes_in 1 1 1 1 rfl rfl hok 1 14 rfl (by rw [head11]; rfl) _).mono ?_
  rintro e y2 ⟨rfl, hb2⟩
  have HB2 := Lib.hid (HB1.out.trans (hb2.mono HB1.out.size))
  clear hb2
  go_wp2
  go_ret
  exact ⟨rfl, HB2.out⟩

end Go.Proofs.YtcohehekkeeeoaaDoor.Pg
