/- Layer 21 (plate): heads, by the program. -/
import Derived.Test.YtcohehekkeeeoaaDoorF20
import Derived.Deep.RegionHeld
import Derived.OwnWalk
namespace Go.Proofs.YtcohehekkeeeoaaDoor.Pg
open Go Go.RowKit Go.Proofs.YtcohehekkeeeoaaDoor Go.Proofs.YtcohehekkeeeoaaDoor.Re Go.Proofs.YtcohehekkeeeoaaDoor.Au
set_option linter.unusedVariables false
set_option linter.unusedSimpArgs false

theorem str_size (l : List UInt8) : (⟨l.toArray⟩ : ByteArray).size = l.length := by simp [ByteArray.size]

set_option maxHeartbeats 2000000 in
set_option maxRecDepth 100000 in
theorem appuint_any (B n : Nat) (v : Value) (xs : List Value) (x : Int) (i : Nat) (hx : x = i) (hi100 : i < 100) (w : World) (ho : OwE w B v n xs) (h0 : 0 < n) (hn : n ≤ 100000) (hB : B ≤ w.heap.size) : Calls Tryd.prog 79 #[v, .int .u64 x, .int .i64 10] w fun e w' => ∃ v', e = .returned v' ∧ OwE w' B v' (n + (dec i).length) (xs ++ vals (dec i)) ∧ Below B w w' := by
  obtain ⟨i0, hi, hz0, hz1, hz2⟩ := info_parts infoByte
  have HX := Lib.hid hx
  have HO := Lib.hid ho
  have hx1 : 0 ≤ x := by omega
  have hx2 : x < 100 := by omega
  have hd := (dec_len (n := i)).2
  clear hx ho
  go_enter Tryd.func79, Tryd.ntmps79
  go_wp2_with (first
    | (go_at_call 80; refine (small_any x i HX.out hi100 _).mono ?_; rintro e w' ⟨rfl, rfl⟩)
    | (at_builtin; go_loud (refine wpList_append_Es _ rfl _ _ 56 9 rfl B i0 Tryd.underlying56 Tryd.underlying9 hi hz0 hz1 hz2 _ n _ rfl HO.out h0 ⟨(dec i).toArray⟩ rfl ?d1 ?d2 hB ?_)))
  case d1 => rw [str_size]; unfold maxLen; omega
  case d2 => rw [str_size]; omega
  intro v2 w2 hown2 hgrow2
  rw [str_vals] at hown2
  have hb : Below B w w2 := (Below.refl B w).grown hgrow2 hB (fun q hq => (HO.out.lt q hq).1)
  go_wp2
  go_ret
  exact ⟨_, rfl, hown2, hb⟩

set_option maxHeartbeats 2000000 in
set_option maxRecDepth 100000 in
theorem appint_in (B n : Nat) (v : Value) (xs : List Value) (x : Int) (i : Nat) (hx : x = i) (hi100 : i < 100) (w : World) (ho : OwE w B v n xs) (h0 : 0 < n) (hn : n ≤ 100000) (hB : B ≤ w.heap.size) : Calls Tryd.prog 77 #[v, .int .i64 x, .int .i64 10] w fun e w' => ∃ v', e = .returned v' ∧ OwE w' B v' (n + (dec i).length) (xs ++ vals (dec i)) ∧ Below B w w' := by
  have HX := Lib.hid hx
  have HO := Lib.hid ho
  have hx1 : 0 ≤ x := by omega
  have hx2 : x < 100 := by omega
  clear hx ho
  go_enter Tryd.func77, Tryd.ntmps77
  go_wp2_with fail
  refine (appuint_any B n v xs x i HX.out hi100 _ HO.out h0 hn hB).mono ?_
  rintro e w' ⟨v2, rfl, hown2, hb⟩
  have HO2 := Lib.hid hown2
  have HB2 := Lib.hid hb
  clear hown2 hb
  go_wp2
  go_ret
  exact ⟨_, rfl, HO2.out, HB2.out⟩

set_option maxHeartbeats 2000000 in
set_option maxRecDepth 100000 in
theorem appint_any (B n : Nat) (v : Value) (xs : List Value) (x : Int) (i : Nat) (hx : x = i) (hi100 : i < 100) (w : World) (ho : OwE w B v n xs) (h0 : 0 < n) (hn : n ≤ 100000) (hB : B ≤ w.heap.size) : Calls Tryd.prog 70 #[v, .int .i64 x, .int .i64 10] w fun e w' => ∃ v', e = .returned v' ∧ OwE w' B v' (n + (dec i).length) (xs ++ vals (dec i)) ∧ Below B w w' := by
  have HO := Lib.hid ho
  have HX := Lib.hid hx
  clear ho hx
  go_enter Tryd.func70, Tryd.ntmps70
  go_wp2_with fail
  refine (appint_in B n v xs x i HX.out hi100 _ HO.out h0 hn hB).mono ?_
  rintro e w' ⟨v2, rfl, hown2, hb⟩
  have HO2 := Lib.hid hown2
  have HB2 := Lib.hid hb
  clear hown2 hb
  go_wp2
  go_ret
  exact ⟨_, rfl, HO2.out, HB2.out⟩

theorem cells1 (w : World) (b : Nat) (x : Int) (u : UInt8) (t : TypeId) (hx : x = (u.toNat : Int)) (hb : b = w.heap.size) : ∀ j y, (vals [u])[j]? = some y → (w.alloc (.cells #[.int .u8 x] t)).cell? ((⟨b, 0, none⟩ : Addr).add j) = some y := by
  subst hx hb
  intro j y hy
  match j with
  | 0 =>
    simp [vals] at hy
    rw [add_at, Nat.zero_add]
    rw [cell_of_row _ _ 0 _ _ _ (heap_alloc_last w _)]
    simpa using hy
  | j + 1 => simp [vals] at hy

set_option maxHeartbeats 4000000 in
set_option maxRecDepth 100000 in
theorem head_any (x y : Int) (n m : Nat) (hx : x = n) (hy : y = m) (h1 : 1 ≤ n) (h2 : n ≤ 64) (h3 : 1 ≤ m) (h4 : m ≤ 64) (w : World) : Calls Tryd.prog 52 #[.agg #[.int .i64 x, .int .i64 y]] w fun e w' => ∃ v, e = .returned v ∧ OwE w' w.heap.size v (headL n m).length (vals (headL n m)) ∧ Below w.heap.size w w' := by
  obtain ⟨i0, hi, hz0, hz1, hz2⟩ := info_parts infoByte
  have HX := Lib.hid hx
  have HY := Lib.hid hy
  have hdn := (dec_len (n := n)).2
  have hdm := (dec_len (n := m)).2
  clear hx hy
  obtain ⟨B, hB⟩ : ∃ B, B = w.heap.size := ⟨_, rfl⟩
  rw [← hB]
  have HB := Lib.hid hB
  have kc := fun (w : World) (C : Array Value) (n c : Nat) => Lib.run_convert_bytes_const (P := Tryd.prog) w 56 5 C n c Tryd.underlying56 Tryd.underlying5
  go_enter Tryd.func52, Tryd.ntmps52
  go_upto_region 1 with fail
  rw [← hB]
  have hr0 := heap_alloc_last w (.cells #[.int .i64 x, .int .i64 y] 33)
  rw [← hB] at hr0
  have hb0 : Below B w (w.alloc (.cells #[.int .i64 x, .int .i64 y] 33)) := by rw [hB]; exact Ve.below_n1 w _
  have hs0 : (w.alloc (.cells #[.int .i64 x, .int .i64 y] 33)).heap.size = B + 1 := by simp [hB]
  obtain ⟨y0, hy0⟩ : ∃ y0, w.alloc (.cells #[.int .i64 x, .int .i64 y] 33) = y0 := ⟨_, rfl⟩
  rw [hy0] at hr0 hb0 hs0 ⊢
  clear hy0 hB
  have kc1 : (convert 56 56 (.slice (some ⟨B + 1, 0, none⟩) 3 3)).run Tryd.prog (y0.alloc (.cells #[.int .u8 80, .int .u8 54, .int .u8 10] 5)) = .ok (.slice (some ⟨B + 1, 0, none⟩) 3 3) (y0.alloc (.cells #[.int .u8 80, .int .u8 54, .int .u8 10] 5 (3, 4))) := by
    have h := kc y0 #[.int .u8 80, .int .u8 54, .int .u8 10] 3 3
    rw [hs0] at h
    exact h
  clear kc
  go_upto_region 2 with fail
  have hr1 := heap_alloc_last y0 (.cells #[.int .u8 80, .int .u8 54, .int .u8 10] 5 (3, 4))
  rw [hs0] at hr1
  have hb1 := hb0.alloc (by omega : B ≤ y0.heap.size) (.cells #[.int .u8 80, .int .u8 54, .int .u8 10] 5 (3, 4))
  have hrb := old (.cells #[.int .u8 80, .int .u8 54, .int .u8 10] 5 (3, 4)) hr0
  have hs1 : (y0.alloc (.cells #[.int .u8 80, .int .u8 54, .int .u8 10] 5 (3, 4))).heap.size = B + 2 := by simp [hs0]
  obtain ⟨y1, hy1⟩ : ∃ y1, y0.alloc (.cells #[.int .u8 80, .int .u8 54, .int .u8 10] 5 (3, 4)) = y1 := ⟨_, rfl⟩
  rw [hy1] at hr1 hb1 hrb hs1 ⊢
  clear hy1 hr0 hb0 kc1 hs0
  have HO1 : OwE y1 (B + 1) (.slice (some ⟨B + 1, 0, none⟩) 3 3) 3 (vals [80, 54, 10]) := ⟨rfl, .inr ⟨B + 1, 3, _, (3, 4), rfl, Nat.le_refl _, hr1, .inr (Nat.le_refl _), Nat.le_refl _, by decide, rfl, rfl⟩⟩
  have HO := Lib.hid HO1
  have HU := Lib.hid hb1
  clear HO1 hr1 hb1
  have c0 := cell_of_row _ _ 0 _ _ _ hrb
  have c1 := cell_of_row _ _ 1 _ _ _ hrb
  simp at c0 c1
  go_wp2_with fail
  refine (appint_any (B + 1) 3 _ _ x n HX.out (by omega) _ HO.out (by omega) (by omega) (by omega)).mono ?_
  rintro e y2 ⟨v2, rfl, ho2, hb2⟩
  obtain ⟨a2, k2, hv2⟩ := ho2.form
  subst hv2
  obtain ⟨n2, hn2⟩ : ∃ k, k = 3 + (dec n).length := ⟨_, rfl⟩
  rw [← hn2] at ho2 ⊢
  have hn2b : n2 ≤ 5 := by omega
  have H20 := Lib.hid (show 0 < n2 by omega)
  have HN2 := Lib.hid hn2
  have hrb2 := (hb2.block B (by omega)).trans hrb
  have hs2 := hb2.size
  have HU2 := Lib.hid (HU.out.trans (hb2.mono (by omega)))
  have HO2 := Lib.hid (ho2.alloc (.cells #[.int .u8 32] 5))
  have HC2 := Lib.hid (cells1 y2 _ 32 32 5 rfl rfl)
  have hs2b : B + 1 ≤ y2.heap.size := by omega
  clear ho2 hb2 hn2 HO hrb c0 c1
  go_upto_region 3 with (at_builtin; go_loud (refine wpList_append_E _ rfl _ _ 56 rfl (B + 1) i0 (.int .u8 0) Tryd.underlying56 hi hz0 rfl hz1 hz2 _ n2 _ rfl HO2.out H20.out ⟨y2.heap.size, 0, none⟩ 1 1 (vals [32]) rfl rfl HC2.out (vals_one _) ?d1 ?d2 ?d3 ?_))
  case d1 => unfold maxLen; omega
  case d2 => omega
  case d3 => simp; omega
  intro v3 y3 ho3 hg3
  have hb3 : Below (B + 1) y2 y3 := ((Below.refl (B + 1) y2).alloc hs2b _).grown hg3 (by simp; omega) (fun q hq => (HO2.out.lt q hq).1)
  obtain ⟨a3, k3, hv3⟩ := ho3.form
  subst hv3
  obtain ⟨n3, hn3⟩ : ∃ k, k = n2 + 1 := ⟨_, rfl⟩
  rw [← hn3] at ho3 ⊢
  have hn3b : n3 ≤ 6 := by omega
  have HN3 := Lib.hid hn3
  have hrb3 := (hb3.block B (by omega)).trans hrb2
  have hs3 : B + 1 ≤ y3.heap.size := Nat.le_trans hs2b hb3.size
  have HU3 := Lib.hid (HU2.out.trans (hb3.mono (by omega)))
  have HO3 := Lib.hid ho3
  clear ho3 hg3 hb3 hrb2 HO2 HC2 hs2b hs2
  clear hn3
  have c0 := cell_of_row _ _ 0 _ _ _ hrb3
  have c1 := cell_of_row _ _ 1 _ _ _ hrb3
  simp at c0 c1
  go_wp2_with fail
  refine (appint_any (B + 1) n3 _ _ y m HY.out (by omega) _ HO3.out (by have := HN3.out; omega) (by omega) (by omega)).mono ?_
  rintro e y4 ⟨v4, rfl, ho4, hb4⟩
  obtain ⟨a4, k4, hv4⟩ := ho4.form
  subst hv4
  obtain ⟨n4, hn4⟩ : ∃ k, k = n3 + (dec m).length := ⟨_, rfl⟩
  rw [← hn4] at ho4 ⊢
  have hn4b : n4 ≤ 8 := by omega
  have H40 := Lib.hid (show 0 < n4 by have := HN3.out; omega)
  have HN4 := Lib.hid hn4
  have hs4 : B + 1 ≤ y4.heap.size := Nat.le_trans hs3 hb4.size
  have HU4 := Lib.hid (HU3.out.trans (hb4.mono (by omega)))
  have HO4 := Lib.hid (ho4.alloc (.cells #[.int .u8 10] 5))
  have HC4 := Lib.hid (cells1 y4 _ 10 10 5 rfl rfl)
  clear ho4 hb4 hn4 HO3 hrb3 c0 c1 hs3
  go_upto_region 4 with (at_builtin; go_loud (refine wpList_append_E _ rfl _ _ 56 rfl (B + 1) i0 (.int .u8 0) Tryd.underlying56 hi hz0 rfl hz1 hz2 _ n4 _ rfl HO4.out H40.out ⟨y4.heap.size, 0, none⟩ 1 1 (vals [10]) rfl rfl HC4.out (vals_one _) ?d1 ?d2 ?d3 ?_))
  case d1 => unfold maxLen; omega
  case d2 => omega
  case d3 => simp; omega
  intro v5 y5 ho5 hg5
  have hb5 : Below (B + 1) y4 y5 := ((Below.refl (B + 1) y4).alloc hs4 _).grown hg5 (by simp; omega) (fun q hq => (HO4.out.lt q hq).1)
  obtain ⟨a5, k5, hv5⟩ := ho5.form
  subst hv5
  obtain ⟨n5, hn5⟩ : ∃ k, k = n4 + 1 := ⟨_, rfl⟩
  rw [← hn5] at ho5 ⊢
  have hn5b : n5 ≤ 9 := by omega
  have HN5 := Lib.hid hn5
  have H50 := Lib.hid (show 0 < n5 by omega)
  have hs5 : B + 1 ≤ y5.heap.size := Nat.le_trans hs4 hb5.size
  have HU5 := Lib.hid (HU4.out.trans (hb5.mono (by omega)))
  have HO5 := Lib.hid ho5
  clear ho5 hg5 hb5 HO4 HC4 hs4 hn5
  go_wp2_with (at_builtin; go_loud (refine wpList_append_Es _ rfl _ _ 56 9 rfl (B + 1) i0 Tryd.underlying56 Tryd.underlying9 hi hz0 hz1 hz2 _ n5 _ rfl HO5.out H50.out { data := #[50, 53, 53, 10] } rfl ?d1 ?d2 hs5 ?_))
  case d1 => rw [show ({ data := #[50, 53, 53, 10] } : ByteArray).size = 4 from rfl]; unfold maxLen; omega
  case d2 => rw [show ({ data := #[50, 53, 53, 10] } : ByteArray).size = 4 from rfl]; omega
  intro v6 y6 ho6 hg6
  have hb6 : Below (B + 1) y5 y6 := (Below.refl (B + 1) y5).grown hg6 hs5 (fun q hq => (HO5.out.lt q hq).1)
  have HU6 := Lib.hid (HU5.out.trans (hb6.mono (by omega)))
  have hx6 : vals [80, 54, 10] ++ (vals (dec n) ++ (vals [32] ++ (vals (dec m) ++ (vals [10] ++ vals [50, 53, 53, 10])))) = vals (headL n m) := by
    unfold headL
    simp only [← vals_append, List.cons_append, List.nil_append, List.append_assoc]
  have hlen : n5 + 4 = (headL n m).length := by
    have q1 := HN2.out
    have q2 := HN3.out
    have q3 := HN4.out
    have q4 := HN5.out
    unfold headL
    simp
    omega
  rw [show Lib.strCells { data := #[50, 53, 53, 10] } = vals [50, 53, 53, 10] from str_vals [50, 53, 53, 10], hx6, hlen] at ho6
  have HO6 := Lib.hid (ho6.mono (show B ≤ B + 1 by omega))
  clear ho6 hg6 hb6 hx6 hlen HO5
  go_wp2
  go_ret
  exact ⟨_, rfl, HO6.out, HU6.out⟩

set_option maxHeartbeats 2000000 in
set_option maxRecDepth 100000 in
theorem bytes_no (x y : Int) (h : ¬ Fm.okSz x y) (w : World) : Calls Tryd.prog 25 #[.agg #[.int .i64 x, .int .i64 y]] w fun e w' => e = .returned (.int .i64 0) ∧ Below w.heap.size w w' := by
  have HH := Lib.hid h
  clear h
  have k := fun w => Fm.szright_any x y w
  rw [decide_eq_false HH.out] at k
  go_enter Tryd.func25, Tryd.ntmps25
  go_upto_region 1 with fail
  have hr0 := heap_alloc_last w (.cells #[.int .i64 x, .int .i64 y] 33)
  have hb0 := Ve.below_n1 w (.cells #[.int .i64 x, .int .i64 y] 33)
  obtain ⟨y0, hy0⟩ : ∃ y0, w.alloc (.cells #[.int .i64 x, .int .i64 y] 33) = y0 := ⟨_, rfl⟩
  rw [hy0] at hr0 hb0 ⊢
  clear hy0
  have c0 := cell_of_row _ _ 0 _ _ _ hr0
  have c1 := cell_of_row _ _ 1 _ _ _ hr0
  simp at c0 c1
  have HU := Lib.hid hb0
  clear hb0
  go_wp2_with (go_at_call 48; refine (k _).mono ?_; rintro e y1 ⟨rfl, hb1⟩)
  go_ret
  exact ⟨rfl, HU.out.trans (hb1.mono HU.out.size)⟩

end Go.Proofs.YtcohehekkeeeoaaDoor.Pg
