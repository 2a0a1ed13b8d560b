/- Layer 21 (plate): how many bytes a file has; the document's example is met. -/
import Derived.Test.YtcohehekkeeeoaaDoorPgk
import Derived.Deep.RegionHeld
namespace Go.Proofs.YtcohehekkeeeoaaDoor.Pg
open Go Go.RowKit Go.Proofs.YtcohehekkeeeoaaDoor Go.Proofs.YtcohehekkeeeoaaDoor.Re Go.Proofs.YtcohehekkeeeoaaDoor.Au
set_option linter.unusedVariables false
set_option linter.unusedSimpArgs false

set_option maxHeartbeats 4000000 in
set_option maxRecDepth 100000 in
theorem bytes_in (x y : Int) (n m : Nat) (hx : x = n) (hy : y = m) (h : Fm.okSz x y) (M N : Int) (hM : M = x * y) (hN : N = (headL n m).length + 3 * M) (w : World) : Calls Tryd.prog 25 #[.agg #[.int .i64 x, .int .i64 y]] w fun e w' => e = .returned (.int .i64 N) ∧ Below w.heap.size w w' := by
  have HX := Lib.hid hx
  have HY := Lib.hid hy
  have HOK := Lib.hid h
  have HM := Lib.hid hM
  have h1 : 1 ≤ n := by have := h.1; omega
  have h2 : n ≤ 64 := by have := h.2.1; omega
  have h3 : 1 ≤ m := by have := h.2.2.1; omega
  have h4 : m ≤ 64 := by have := h.2.2.2; omega
  have hm1 : 1 ≤ M := by have := (Fm.okSz_mul h).1; omega
  have hm2 : M ≤ 4096 := by have := (Fm.okSz_mul h).2; omega
  have hlen := head_len n m
  obtain ⟨L, hL⟩ : ∃ L, L = (headL n m).length := ⟨_, rfl⟩
  have hw1 : IntKind.i64.wrap (3 * M) = 3 * M := by rw [IntKind.wrap_i64]; omega
  have hw2 : IntKind.i64.wrap (((headL n m).length : Int) + 3 * M) = N := by rw [hN, IntKind.wrap_i64]; omega
  have k := fun w => Fm.szright_any x y w
  rw [decide_eq_true h] at k
  clear hx hy h hM hN hL
  go_enter Tryd.func25, Tryd.ntmps25
  go_upto_region 1 with fail
  have hr0 := heap_alloc_last w (.cells #[.int .i64 x, .int .i64 y] 33)
  have hb0 := Ve.below_n1 w (.cells #[.int .i64 x, .int .i64 y] 33)
  obtain ⟨y9, hy9⟩ : ∃ y9, w.alloc (.cells #[.int .i64 x, .int .i64 y] 33) = y9 := ⟨_, rfl⟩
  rw [hy9] at hr0 hb0 ⊢
  clear hy9
  have c0 := cell_of_row _ _ 0 _ _ _ hr0
  have c1 := cell_of_row _ _ 1 _ _ _ hr0
  simp at c0 c1
  have HU := Lib.hid hb0
  have hl9 := lt_heap hr0
  clear hb0
  go_upto_region 3 with (go_at_call 48; refine (k _).mono ?_; rintro e y0 ⟨rfl, hb1⟩)
  have HR := Lib.hid ((hb1.block _ hl9).trans hr0)
  have HB0 := Lib.hid (HU.out.trans (hb1.mono HU.out.size))
  have hl0 := lt_heap HR.out
  have hS00 : Below y0.heap.size y0 y0.drew := (Below.refl _ y0).drew
  clear hb1 hr0 hl9 c0 c1 k
  refine wp_region_held_drew (S := Below y0.heap.size y0) (by kernel_rfl) (hS00) (fun hS0 => ?_)
  refine wpAnyH_take (i := 0) (v := ?_) rfl (by kernel_rfl) (by kernel_rfl) (by kernel_rfl) (fun _ _ _ h => h) (Or.inl ⟨by kernel_rfl, by (intro wz hSz; have hc_ := (hSz.block w.heap.size hl0).trans HR.out; have cq0_ := cell_of_row _ _ 0 _ _ _ hc_; have cq1_ := cell_of_row _ _ 1 _ _ _ hc_; simp at cq0_ cq1_; go_simp; try with_reducible rfl)⟩) hS0 ?_
  go_simp
  refine wpAnyH_take (i := 3) (v := ?_) rfl (by kernel_rfl) (by kernel_rfl) (by kernel_rfl) (fun _ _ _ h => h) (Or.inl ⟨by kernel_rfl, by (intro wz hSz; have hc_ := (hSz.block w.heap.size hl0).trans HR.out; have cq0_ := cell_of_row _ _ 0 _ _ _ hc_; have cq1_ := cell_of_row _ _ 1 _ _ _ hc_; simp at cq0_ cq1_; go_simp; try with_reducible rfl)⟩) hS0 ?_
  go_simp
  refine wpAnyH_ready (rs := [1]) (by kernel_rfl) (by simp) ?_
  refine AllReadyH.cons rfl (fun K hK => ?_) AllReadyH.nil
  go_wp2_with fail
  refine (head_any x y n m HX.out HY.out h1 h2 h3 h4 _).mono ?_
  rintro e z1 ⟨v1, rfl, ho1, hb1⟩
  obtain ⟨a1, c1, hv1⟩ := ho1.form
  subst hv1
  clear ho1
  have hS1_ := hS0.trans (hb1.mono hS0.size)
  clear hb1
  refine hK.out _ _ (hS1_) (fun hS1 => ?_)
  clear hK K
  refine wpAnyH_take (i := 2) (v := ?_) rfl (by kernel_rfl) (by kernel_rfl) (by kernel_rfl) (fun _ _ _ h => h) (Or.inl ⟨by kernel_rfl, by (intro wz hSz; go_simp; try with_reducible rfl)⟩) hS1 ?_
  go_simp
  refine wpAnyH_ready (rs := [4]) (by kernel_rfl) (by simp) ?_
  refine AllReadyH.cons rfl (fun K hK => ?_) AllReadyH.nil
  go_wp2_with fail
  refine ((show Calls _ _ _ _ (fun e w' => e = .returned (.int .i64 M) ∧ Below _ _ w') from by rw [HM.out]; exact Fm.pix_ok x y HOK.out _)).mono ?_
  rintro e z2 ⟨rfl, hb2⟩
  have hS2_ := hS1.trans (hb2.mono hS1.size)
  clear hb2
  refine hK.out _ _ (hS2_) (fun hS2 => ?_)
  clear hK K
  refine wpAnyH_take (i := 5) (v := ?_) rfl (by kernel_rfl) (by kernel_rfl) (by kernel_rfl) (fun _ _ _ h => h) (Or.inl ⟨by kernel_rfl, by (intro wz hSz; go_simp; try with_reducible rfl)⟩) hS2 ?_
  go_simp
  refine wpAnyH_take (i := 6) (v := ?_) rfl (by kernel_rfl) (by kernel_rfl) (by kernel_rfl) (fun _ _ _ h => h) (Or.inl ⟨by kernel_rfl, by (intro wz hSz; go_simp; try with_reducible rfl)⟩) hS2 ?_
  go_simp
  refine wpAnyH_take (i := 7) (v := ?_) rfl (by kernel_rfl) (by kernel_rfl) (by kernel_rfl) (fun _ _ _ h => h) (Or.inl ⟨by kernel_rfl, by (intro wz hSz; go_simp; try with_reducible rfl)⟩) hS2 ?_
  go_simp
  refine wpAnyH_done (by kernel_rfl) ?_ _
  have HF := Lib.hid (HB0.out.trans (hS2.mono HB0.out.size))
  go_wp2
  go_ret
  exact ⟨rfl, HF.out⟩

theorem one_len : (headL 1 1 ++ [0, 0, 0]).length = 14 := by decide +kernel

theorem head11 : (headL 1 1).length = 11 := by decide +kernel

set_option maxHeartbeats 2000000 in
set_option maxRecDepth 100000 in
theorem awake_any (w : World) : Calls Tryd.prog 7 #[] w fun e w' => e = .returned (.bool true) ∧ Below w.heap.size w w' := by
  have hok : Fm.okSz 1 1 := by unfold Fm.okSz; omega
  have hsh : Fm.okSh 1 1 1 := ⟨hok, rfl⟩
  go_enter Tryd.func7, Tryd.ntmps7
  go_wp2_with fail
  have hr := heap_alloc_last w (.cells #[.int .u8 0, .int .u8 0, .int .u8 0] 69)
  have hb := Ve.below_n1 w (.cells #[.int .u8 0, .int .u8 0, .int .u8 0] 69)
  have hD : Dt (w.alloc (.cells #[.int .u8 0, .int .u8 0, .int .u8 0] 69)) (some ⟨w.heap.size, 0, none⟩) 1 [0, 0, 0] := ⟨rfl, fun j u hu => ⟨w.heap.size, 0, rfl, by rw [Nat.zero_add, cell_of_row _ _ j _ _ _ hr]; simpa [vals] using hu⟩⟩
  refine (encode_yes 1 1 1 1 (some ⟨w.heap.size, 0, none⟩) 1 1 [0, 0, 0] _ rfl rfl hsh hD).mono ?_
  rintro e y1 ⟨v1, rfl, ho1, hb1⟩
  rw [one_len] at ho1
  obtain ⟨a1, c1, hv1⟩ := ho1.form
  subst hv1
  have HB1 := Lib.hid (hb.trans (hb1.mono hb.size))
  clear ho1 hb1 hr hb hD
  go_wp2_with fail
  refine (bytes_in 1 1 1 1 rfl rfl hok 1 14 rfl (by rw [head11]; rfl) _).mono ?_
  rintro e y2 ⟨rfl, hb2⟩
  have HB2 := Lib.hid (HB1.out.trans (hb2.mono HB1.out.size))
  clear hb2
  go_wp2
  go_ret
  exact ⟨rfl, HB2.out⟩

end Go.Proofs.YtcohehekkeeeoaaDoor.Pg
