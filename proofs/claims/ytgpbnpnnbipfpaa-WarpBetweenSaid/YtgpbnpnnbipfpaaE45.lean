/- Films: a pixel's past, by the program and by the document. -/
import Derived.Test.YtgpbnpnnbipfpaaE37
import Derived.Test.YtgpbnpnnbipfpaaE44
import Derived.Test.YtgpbnpnnbipfpaaE17
namespace Go.Proofs.Ytgpbnpnnbipfpaa.Fm
open Go Go.RowKit Go.Proofs.Ytgpbnpnnbipfpaa Go.Proofs.Ytgpbnpnnbipfpaa.Rp Go.Proofs.Ytgpbnpnnbipfpaa.Re Go.Proofs.Ytgpbnpnnbipfpaa.Au Go.Proofs.Ytgpbnpnnbipfpaa.Jw
set_option linter.unusedVariables false
set_option linter.unusedSimpArgs false

set_option maxHeartbeats 4000000 in
set_option maxRecDepth 100000 in
theorem past_neg (W H W2 H2 : Int) (al ad an ab ax al2 ad2 an2 ab2 ax2 af2 : Option Addr) (fb fo cl cd cn cb cx cf nl nd nn nb ns nf cl2 cd2 cn2 cb2 cx2 cf2 nl2 nd2 nn2 nb2 ns2 nf2 : Nat) (w y0 : World) (hU : Below w.heap.size w y0) (bn bw : Nat) (hr0_0 : y0.heap[bn]? = some (.cells #[.int .i64 W, .int .i64 H, .slice al nl cl, .slice ad nd cd, .slice an nn cn, .slice ab nb cb, .slice ax ns cx, .slice (some ⟨fb, fo, none⟩) nf cf] 40 (0, 0))) (hr0_1 : y0.heap[bw]? = some (.cells #[.int .i64 W2, .int .i64 H2, .slice al2 nl2 cl2, .slice ad2 nd2 cd2, .slice an2 nn2 cn2, .slice ab2 nb2 cb2, .slice ax2 ns2 cx2, .slice af2 nf2 cf2] 40 (0, 0))) (i : Nat) (hi : i < nf) (hsn : ns = nf) (hnn : nn = nf) (u : Int) (hu : u < 0) (eF : y0.cell? ⟨fb, fo + i, none⟩ = some (.int .i64 u)) : Calls Try.prog 25 #[.pointer (some ⟨bn, 0, none⟩), .pointer (some ⟨bw, 0, none⟩), .int .i64 i] y0 fun e' w' => e' = .returned (.tuple #[.int .i64 0, .bool false]) ∧ Below w.heap.size w w' := by
  have hi' : (i : Int) < nf := by omega
  have hi2 : (i : Int) < ns := by omega
  have hi3 : (i : Int) < nn := by omega
  have d0 : decide (u < 0) = true := decide_eq_true hu
  clear hu
  have HU0 := Lib.hid hU
  clear hU hsn hnn
  go_enter Try.func25, Try.ntmps25
  have c0_0 := cell_of_row _ _ 0 _ _ _ hr0_0
  have c0_1 := cell_of_row _ _ 1 _ _ _ hr0_0
  have c0_2 := cell_of_row _ _ 2 _ _ _ hr0_0
  have c0_3 := cell_of_row _ _ 3 _ _ _ hr0_0
  have c0_4 := cell_of_row _ _ 4 _ _ _ hr0_0
  have c0_5 := cell_of_row _ _ 5 _ _ _ hr0_0
  have c0_6 := cell_of_row _ _ 6 _ _ _ hr0_0
  have c0_7 := cell_of_row _ _ 7 _ _ _ hr0_0
  have c1_0 := cell_of_row _ _ 0 _ _ _ hr0_1
  have c1_1 := cell_of_row _ _ 1 _ _ _ hr0_1
  have c1_2 := cell_of_row _ _ 2 _ _ _ hr0_1
  have c1_3 := cell_of_row _ _ 3 _ _ _ hr0_1
  have c1_4 := cell_of_row _ _ 4 _ _ _ hr0_1
  have c1_5 := cell_of_row _ _ 5 _ _ _ hr0_1
  have c1_6 := cell_of_row _ _ 6 _ _ _ hr0_1
  have c1_7 := cell_of_row _ _ 7 _ _ _ hr0_1
  simp at c0_0 c0_1 c0_2 c0_3 c0_4 c0_5 c0_6 c0_7 c1_0 c1_1 c1_2 c1_3 c1_4 c1_5 c1_6 c1_7
  go_upto_region 2 with fail
  clear c0_0 c0_1 c0_2 c0_3 c0_4 c0_5 c0_6 c0_7 c1_0 c1_1 c1_2 c1_3 c1_4 c1_5 c1_6 c1_7
  refine wp_region_held_drew (S := fun y => y.heap[bn]? = some (.cells #[.int .i64 W, .int .i64 H, .slice al nl cl, .slice ad nd cd, .slice an nn cn, .slice ab nb cb, .slice ax ns cx, .slice (some ⟨fb, fo, none⟩) nf cf] 40 (0, 0)) ∧ y.heap[bw]? = some (.cells #[.int .i64 W2, .int .i64 H2, .slice al2 nl2 cl2, .slice ad2 nd2 cd2, .slice an2 nn2 cn2, .slice ab2 nb2 cb2, .slice ax2 ns2 cx2, .slice af2 nf2 cf2] 40 (0, 0))) (by kernel_rfl) (⟨hr0_0, hr0_1⟩) (fun hS0 => ?_)
  obtain ⟨y1, hy1⟩ : ∃ y, y0.drew = y := ⟨_, rfl⟩
  have HU1 := Lib.hid (show Below w.heap.size w y1 by rw [← hy1]; exact HU0.out.drew)
  have hr1_0 : y1.heap[bn]? = some (.cells #[.int .i64 W, .int .i64 H, .slice al nl cl, .slice ad nd cd, .slice an nn cn, .slice ab nb cb, .slice ax ns cx, .slice (some ⟨fb, fo, none⟩) nf cf] 40 (0, 0)) := by rw [← hy1]; exact hr0_0
  have hr1_1 : y1.heap[bw]? = some (.cells #[.int .i64 W2, .int .i64 H2, .slice al2 nl2 cl2, .slice ad2 nd2 cd2, .slice an2 nn2 cn2, .slice ab2 nb2 cb2, .slice ax2 ns2 cx2, .slice af2 nf2 cf2] 40 (0, 0)) := by rw [← hy1]; exact hr0_1
  rw [hy1] at hS0 ⊢
  clear hy1
  refine wpAnyH_take (i := 0) (v := ?_) rfl (by kernel_rfl) (by kernel_rfl) (by kernel_rfl) (fun _ _ _ h => h) (Or.inl ⟨by kernel_rfl, by (intro wz hSz; go_simp; try with_reducible rfl)⟩) hS0 ?_
  go_simp
  refine wpAnyH_take (i := 1) (v := ?_) rfl (by kernel_rfl) (by kernel_rfl) (by kernel_rfl) (fun _ _ _ h => h) (Or.inl ⟨by kernel_rfl, by (intro wz hSz; go_simp; try with_reducible rfl)⟩) hS0 ?_
  go_simp
  refine wpAnyH_take (i := 2) (v := ?_) rfl (by kernel_rfl) (by kernel_rfl) (by kernel_rfl) (fun _ _ _ h => h) (Or.inl ⟨by kernel_rfl, by (intro wz hSz; go_simp; try with_reducible rfl)⟩) hS0 ?_
  go_simp
  refine wpAnyH_take (i := 3) (v := undef) rfl (by kernel_rfl) (by kernel_rfl) (by kernel_rfl) (fun _ _ _ h => h) (Or.inr ⟨by kernel_rfl, rfl⟩) hS0 ?_
  go_simp
  refine wpAnyH_take (i := 4) (v := undef) rfl (by kernel_rfl) (by kernel_rfl) (by kernel_rfl) (fun _ _ _ h => h) (Or.inr ⟨by kernel_rfl, rfl⟩) hS0 ?_
  go_simp
  refine wpAnyH_take (i := 5) (v := undef) rfl (by kernel_rfl) (by kernel_rfl) (by kernel_rfl) (fun _ _ _ h => h) (Or.inr ⟨by kernel_rfl, rfl⟩) hS0 ?_
  go_simp
  refine wpAnyH_take (i := 6) (v := undef) rfl (by kernel_rfl) (by kernel_rfl) (by kernel_rfl) (fun _ _ _ h => h) (Or.inr ⟨by kernel_rfl, rfl⟩) hS0 ?_
  go_simp
  refine wpAnyH_take (i := 7) (v := undef) rfl (by kernel_rfl) (by kernel_rfl) (by kernel_rfl) (fun _ _ _ h => h) (Or.inr ⟨by kernel_rfl, rfl⟩) hS0 ?_
  go_simp
  refine wpAnyH_take (i := 8) (v := undef) rfl (by kernel_rfl) (by kernel_rfl) (by kernel_rfl) (fun _ _ _ h => h) (Or.inr ⟨by kernel_rfl, rfl⟩) hS0 ?_
  go_simp
  refine wpAnyH_take (i := 9) (v := undef) rfl (by kernel_rfl) (by kernel_rfl) (by kernel_rfl) (fun _ _ _ h => h) (Or.inr ⟨by kernel_rfl, rfl⟩) hS0 ?_
  go_simp
  refine wpAnyH_take (i := 10) (v := undef) rfl (by kernel_rfl) (by kernel_rfl) (by kernel_rfl) (fun _ _ _ h => h) (Or.inr ⟨by kernel_rfl, rfl⟩) hS0 ?_
  go_simp
  refine wpAnyH_take (i := 11) (v := ?_) rfl (by kernel_rfl) (by kernel_rfl) (by kernel_rfl) (fun _ _ _ h => h) (Or.inl ⟨by kernel_rfl, by (intro wz hSz; go_simp; try with_reducible rfl)⟩) hS0 ?_
  go_simp
  refine wpAnyH_take (i := 12) (v := ?_) rfl (by kernel_rfl) (by kernel_rfl) (by kernel_rfl) (fun _ _ _ h => h) (Or.inl ⟨by kernel_rfl, by (intro wz hSz; go_simp; try with_reducible rfl)⟩) hS0 ?_
  go_simp
  refine wpAnyH_take (i := 13) (v := undef) rfl (by kernel_rfl) (by kernel_rfl) (by kernel_rfl) (fun _ _ _ h => h) (Or.inr ⟨by kernel_rfl, rfl⟩) hS0 ?_
  go_simp
  refine wpAnyH_take (i := 14) (v := undef) rfl (by kernel_rfl) (by kernel_rfl) (by kernel_rfl) (fun _ _ _ h => h) (Or.inr ⟨by kernel_rfl, rfl⟩) hS0 ?_
  go_simp
  refine wpAnyH_take (i := 15) (v := undef) rfl (by kernel_rfl) (by kernel_rfl) (by kernel_rfl) (fun _ _ _ h => h) (Or.inr ⟨by kernel_rfl, rfl⟩) hS0 ?_
  go_simp
  refine wpAnyH_take (i := 16) (v := undef) rfl (by kernel_rfl) (by kernel_rfl) (by kernel_rfl) (fun _ _ _ h => h) (Or.inr ⟨by kernel_rfl, rfl⟩) hS0 ?_
  go_simp
  refine wpAnyH_take (i := 17) (v := undef) rfl (by kernel_rfl) (by kernel_rfl) (by kernel_rfl) (fun _ _ _ h => h) (Or.inr ⟨by kernel_rfl, rfl⟩) hS0 ?_
  go_simp
  refine wpAnyH_take (i := 18) (v := undef) rfl (by kernel_rfl) (by kernel_rfl) (by kernel_rfl) (fun _ _ _ h => h) (Or.inr ⟨by kernel_rfl, rfl⟩) hS0 ?_
  go_simp
  refine wpAnyH_take (i := 19) (v := undef) rfl (by kernel_rfl) (by kernel_rfl) (by kernel_rfl) (fun _ _ _ h => h) (Or.inr ⟨by kernel_rfl, rfl⟩) hS0 ?_
  go_simp
  refine wpAnyH_take (i := 20) (v := undef) rfl (by kernel_rfl) (by kernel_rfl) (by kernel_rfl) (fun _ _ _ h => h) (Or.inr ⟨by kernel_rfl, rfl⟩) hS0 ?_
  go_simp
  refine wpAnyH_take (i := 21) (v := undef) rfl (by kernel_rfl) (by kernel_rfl) (by kernel_rfl) (fun _ _ _ h => h) (Or.inr ⟨by kernel_rfl, rfl⟩) hS0 ?_
  go_simp
  refine wpAnyH_take (i := 22) (v := undef) rfl (by kernel_rfl) (by kernel_rfl) (by kernel_rfl) (fun _ _ _ h => h) (Or.inr ⟨by kernel_rfl, rfl⟩) hS0 ?_
  go_simp
  refine wpAnyH_take (i := 23) (v := undef) rfl (by kernel_rfl) (by kernel_rfl) (by kernel_rfl) (fun _ _ _ h => h) (Or.inr ⟨by kernel_rfl, rfl⟩) hS0 ?_
  go_simp
  refine wpAnyH_take (i := 24) (v := undef) rfl (by kernel_rfl) (by kernel_rfl) (by kernel_rfl) (fun _ _ _ h => h) (Or.inr ⟨by kernel_rfl, rfl⟩) hS0 ?_
  go_simp
  refine wpAnyH_take (i := 25) (v := undef) rfl (by kernel_rfl) (by kernel_rfl) (by kernel_rfl) (fun _ _ _ h => h) (Or.inr ⟨by kernel_rfl, rfl⟩) hS0 ?_
  go_simp
  refine wpAnyH_take (i := 26) (v := undef) rfl (by kernel_rfl) (by kernel_rfl) (by kernel_rfl) (fun _ _ _ h => h) (Or.inr ⟨by kernel_rfl, rfl⟩) hS0 ?_
  go_simp
  refine wpAnyH_take (i := 27) (v := undef) rfl (by kernel_rfl) (by kernel_rfl) (by kernel_rfl) (fun _ _ _ h => h) (Or.inr ⟨by kernel_rfl, rfl⟩) hS0 ?_
  go_simp
  refine wpAnyH_take (i := 28) (v := ?_) rfl (by kernel_rfl) (by kernel_rfl) (by kernel_rfl) (fun _ _ _ h => h) (Or.inl ⟨by kernel_rfl, by (intro wz hSz; go_simp; try with_reducible rfl)⟩) hS0 ?_
  go_simp
  refine wpAnyH_take (i := 29) (v := ?_) rfl (by kernel_rfl) (by kernel_rfl) (by kernel_rfl) (fun _ _ _ h => h) (Or.inl ⟨by kernel_rfl, by (intro wz hSz; go_simp; try with_reducible rfl)⟩) hS0 ?_
  go_simp
  refine wpAnyH_take (i := 30) (v := undef) rfl (by kernel_rfl) (by kernel_rfl) (by kernel_rfl) (fun _ _ _ h => h) (Or.inr ⟨by kernel_rfl, rfl⟩) hS0 ?_
  go_simp
  refine wpAnyH_take (i := 31) (v := undef) rfl (by kernel_rfl) (by kernel_rfl) (by kernel_rfl) (fun _ _ _ h => h) (Or.inr ⟨by kernel_rfl, rfl⟩) hS0 ?_
  go_simp
  refine wpAnyH_take (i := 32) (v := undef) rfl (by kernel_rfl) (by kernel_rfl) (by kernel_rfl) (fun _ _ _ h => h) (Or.inr ⟨by kernel_rfl, rfl⟩) hS0 ?_
  go_simp
  refine wpAnyH_take (i := 33) (v := undef) rfl (by kernel_rfl) (by kernel_rfl) (by kernel_rfl) (fun _ _ _ h => h) (Or.inr ⟨by kernel_rfl, rfl⟩) hS0 ?_
  go_simp
  refine wpAnyH_take (i := 34) (v := undef) rfl (by kernel_rfl) (by kernel_rfl) (by kernel_rfl) (fun _ _ _ h => h) (Or.inr ⟨by kernel_rfl, rfl⟩) hS0 ?_
  go_simp
  refine wpAnyH_take (i := 35) (v := undef) rfl (by kernel_rfl) (by kernel_rfl) (by kernel_rfl) (fun _ _ _ h => h) (Or.inr ⟨by kernel_rfl, rfl⟩) hS0 ?_
  go_simp
  refine wpAnyH_take (i := 36) (v := undef) rfl (by kernel_rfl) (by kernel_rfl) (by kernel_rfl) (fun _ _ _ h => h) (Or.inr ⟨by kernel_rfl, rfl⟩) hS0 ?_
  go_simp
  refine wpAnyH_take (i := 37) (v := undef) rfl (by kernel_rfl) (by kernel_rfl) (by kernel_rfl) (fun _ _ _ h => h) (Or.inr ⟨by kernel_rfl, rfl⟩) hS0 ?_
  go_simp
  refine wpAnyH_take (i := 38) (v := undef) rfl (by kernel_rfl) (by kernel_rfl) (by kernel_rfl) (fun _ _ _ h => h) (Or.inr ⟨by kernel_rfl, rfl⟩) hS0 ?_
  go_simp
  refine wpAnyH_take (i := 39) (v := undef) rfl (by kernel_rfl) (by kernel_rfl) (by kernel_rfl) (fun _ _ _ h => h) (Or.inr ⟨by kernel_rfl, rfl⟩) hS0 ?_
  go_simp
  refine wpAnyH_take (i := 40) (v := undef) rfl (by kernel_rfl) (by kernel_rfl) (by kernel_rfl) (fun _ _ _ h => h) (Or.inr ⟨by kernel_rfl, rfl⟩) hS0 ?_
  go_simp
  refine wpAnyH_take (i := 41) (v := undef) rfl (by kernel_rfl) (by kernel_rfl) (by kernel_rfl) (fun _ _ _ h => h) (Or.inr ⟨by kernel_rfl, rfl⟩) hS0 ?_
  go_simp
  refine wpAnyH_take (i := 42) (v := undef) rfl (by kernel_rfl) (by kernel_rfl) (by kernel_rfl) (fun _ _ _ h => h) (Or.inr ⟨by kernel_rfl, rfl⟩) hS0 ?_
  go_simp
  refine wpAnyH_take (i := 43) (v := undef) rfl (by kernel_rfl) (by kernel_rfl) (by kernel_rfl) (fun _ _ _ h => h) (Or.inr ⟨by kernel_rfl, rfl⟩) hS0 ?_
  go_simp
  refine wpAnyH_take (i := 44) (v := undef) rfl (by kernel_rfl) (by kernel_rfl) (by kernel_rfl) (fun _ _ _ h => h) (Or.inr ⟨by kernel_rfl, rfl⟩) hS0 ?_
  go_simp
  refine wpAnyH_take (i := 45) (v := undef) rfl (by kernel_rfl) (by kernel_rfl) (by kernel_rfl) (fun _ _ _ h => h) (Or.inr ⟨by kernel_rfl, rfl⟩) hS0 ?_
  go_simp
  refine wpAnyH_take (i := 46) (v := ?_) rfl (by kernel_rfl) (by kernel_rfl) (by kernel_rfl) (fun _ _ _ h => h) (Or.inl ⟨by kernel_rfl, by (intro wz hSz; go_simp; try with_reducible rfl)⟩) hS0 ?_
  go_simp
  refine wpAnyH_done (by kernel_rfl) ?_ _
  go_wp2
  exact bodyPost_ret (v := .tuple #[.int .i64 0, .bool false]) (by simp [results, Try.results25, go_sem]) rfl ⟨rfl, HU1.out⟩

set_option maxHeartbeats 4000000 in
set_option maxRecDepth 100000 in
theorem past_far (W H W2 H2 : Int) (al ad an ab ax al2 ad2 an2 ab2 ax2 af2 : Option Addr) (fb fo cl cd cn cb cx cf nl nd nn nb ns nf cl2 cd2 cn2 cb2 cx2 cf2 nl2 nd2 nn2 nb2 ns2 nf2 : Nat) (w y0 : World) (hU : Below w.heap.size w y0) (bn bw : Nat) (hr0_0 : y0.heap[bn]? = some (.cells #[.int .i64 W, .int .i64 H, .slice al nl cl, .slice ad nd cd, .slice an nn cn, .slice ab nb cb, .slice ax ns cx, .slice (some ⟨fb, fo, none⟩) nf cf] 40 (0, 0))) (hr0_1 : y0.heap[bw]? = some (.cells #[.int .i64 W2, .int .i64 H2, .slice al2 nl2 cl2, .slice ad2 nd2 cd2, .slice an2 nn2 cn2, .slice ab2 nb2 cb2, .slice ax2 ns2 cx2, .slice af2 nf2 cf2] 40 (0, 0))) (i : Nat) (hi : i < nf) (hsn : ns = nf) (hnn : nn = nf) (k : Nat) (eF : y0.cell? ⟨fb, fo + i, none⟩ = some (.int .i64 (k : Int))) (hk : ¬ k < ns2) (m : Int) (hm : m = ns2) (hP : ∀ W : World, Calls Try.prog 31 #[.agg #[.int .i64 W2, .int .i64 H2]] W fun e' w' => e' = .returned (.int .i64 m) ∧ Below W.heap.size W w') : Calls Try.prog 25 #[.pointer (some ⟨bn, 0, none⟩), .pointer (some ⟨bw, 0, none⟩), .int .i64 i] y0 fun e' w' => e' = .returned (.tuple #[.int .i64 0, .bool false]) ∧ Below w.heap.size w w' := by
  have hi' : (i : Int) < nf := by omega
  have hi2 : (i : Int) < ns := by omega
  have hi3 : (i : Int) < nn := by omega
  have d0 : decide ((k : Int) < 0) = false := decide_eq_false (by omega)
  have d1 : decide (m ≤ (k : Int)) = true := decide_eq_true (by omega)
  have HU0 := Lib.hid hU
  clear hU hsn hnn hm
  go_enter Try.func25, Try.ntmps25
  have c0_0 := cell_of_row _ _ 0 _ _ _ hr0_0
  have c0_1 := cell_of_row _ _ 1 _ _ _ hr0_0
  have c0_2 := cell_of_row _ _ 2 _ _ _ hr0_0
  have c0_3 := cell_of_row _ _ 3 _ _ _ hr0_0
  have c0_4 := cell_of_row _ _ 4 _ _ _ hr0_0
  have c0_5 := cell_of_row _ _ 5 _ _ _ hr0_0
  have c0_6 := cell_of_row _ _ 6 _ _ _ hr0_0
  have c0_7 := cell_of_row _ _ 7 _ _ _ hr0_0
  have c1_0 := cell_of_row _ _ 0 _ _ _ hr0_1
  have c1_1 := cell_of_row _ _ 1 _ _ _ hr0_1
  have c1_2 := cell_of_row _ _ 2 _ _ _ hr0_1
  have c1_3 := cell_of_row _ _ 3 _ _ _ hr0_1
  have c1_4 := cell_of_row _ _ 4 _ _ _ hr0_1
  have c1_5 := cell_of_row _ _ 5 _ _ _ hr0_1
  have c1_6 := cell_of_row _ _ 6 _ _ _ hr0_1
  have c1_7 := cell_of_row _ _ 7 _ _ _ hr0_1
  simp at c0_0 c0_1 c0_2 c0_3 c0_4 c0_5 c0_6 c0_7 c1_0 c1_1 c1_2 c1_3 c1_4 c1_5 c1_6 c1_7
  go_upto_region 2 with fail
  clear c0_0 c0_1 c0_2 c0_3 c0_4 c0_5 c0_6 c0_7 c1_0 c1_1 c1_2 c1_3 c1_4 c1_5 c1_6 c1_7
  refine wp_region_held_drew (S := fun y => y.heap[bn]? = some (.cells #[.int .i64 W, .int .i64 H, .slice al nl cl, .slice ad nd cd, .slice an nn cn, .slice ab nb cb, .slice ax ns cx, .slice (some ⟨fb, fo, none⟩) nf cf] 40 (0, 0)) ∧ y.heap[bw]? = some (.cells #[.int .i64 W2, .int .i64 H2, .slice al2 nl2 cl2, .slice ad2 nd2 cd2, .slice an2 nn2 cn2, .slice ab2 nb2 cb2, .slice ax2 ns2 cx2, .slice af2 nf2 cf2] 40 (0, 0))) (by kernel_rfl) (⟨hr0_0, hr0_1⟩) (fun hS0 => ?_)
  obtain ⟨y1, hy1⟩ : ∃ y, y0.drew = y := ⟨_, rfl⟩
  have HU1 := Lib.hid (show Below w.heap.size w y1 by rw [← hy1]; exact HU0.out.drew)
  have hr1_0 : y1.heap[bn]? = some (.cells #[.int .i64 W, .int .i64 H, .slice al nl cl, .slice ad nd cd, .slice an nn cn, .slice ab nb cb, .slice ax ns cx, .slice (some ⟨fb, fo, none⟩) nf cf] 40 (0, 0)) := by rw [← hy1]; exact hr0_0
  have hr1_1 : y1.heap[bw]? = some (.cells #[.int .i64 W2, .int .i64 H2, .slice al2 nl2 cl2, .slice ad2 nd2 cd2, .slice an2 nn2 cn2, .slice ab2 nb2 cb2, .slice ax2 ns2 cx2, .slice af2 nf2 cf2] 40 (0, 0)) := by rw [← hy1]; exact hr0_1
  rw [hy1] at hS0 ⊢
  clear hy1
  refine wpAnyH_take (i := 0) (v := ?_) rfl (by kernel_rfl) (by kernel_rfl) (by kernel_rfl) (fun _ _ _ h => h) (Or.inl ⟨by kernel_rfl, by (intro wz hSz; go_simp; try with_reducible rfl)⟩) hS0 ?_
  go_simp
  refine wpAnyH_take (i := 1) (v := ?_) rfl (by kernel_rfl) (by kernel_rfl) (by kernel_rfl) (fun _ _ _ h => h) (Or.inl ⟨by kernel_rfl, by (intro wz hSz; go_simp; try with_reducible rfl)⟩) hS0 ?_
  go_simp
  refine wpAnyH_take (i := 2) (v := ?_) rfl (by kernel_rfl) (by kernel_rfl) (by kernel_rfl) (fun _ _ _ h => h) (Or.inl ⟨by kernel_rfl, by (intro wz hSz; go_simp; try with_reducible rfl)⟩) hS0 ?_
  go_simp
  refine wpAnyH_take (i := 3) (v := ?_) rfl (by kernel_rfl) (by kernel_rfl) (by kernel_rfl) (fun _ _ _ h => h) (Or.inl ⟨by kernel_rfl, by (intro wz hSz; go_simp; try with_reducible rfl)⟩) hS0 ?_
  go_simp
  refine wpAnyH_take (i := 4) (v := ?_) rfl (by kernel_rfl) (by kernel_rfl) (by kernel_rfl) (fun _ _ _ h => h) (Or.inl ⟨by kernel_rfl, by (intro wz hSz; go_simp; try with_reducible rfl)⟩) hS0 ?_
  go_simp
  refine wpAnyH_take (i := 5) (v := ?_) rfl (by kernel_rfl) (by kernel_rfl) (by kernel_rfl) (fun _ _ _ h => h) (Or.inl ⟨by kernel_rfl, by (intro wz hSz; go_simp; try with_reducible rfl)⟩) hS0 ?_
  go_simp
  refine wpAnyH_take (i := 6) (v := ?_) rfl (by kernel_rfl) (by kernel_rfl) (by kernel_rfl) (fun _ _ _ h => h) (Or.inl ⟨by kernel_rfl, by (intro wz hSz; go_simp; try with_reducible rfl)⟩) hS0 ?_
  go_simp
  refine wpAnyH_take (i := 7) (v := ?_) rfl (by kernel_rfl) (by kernel_rfl) (by kernel_rfl) (fun _ _ _ h => h) (Or.inl ⟨by kernel_rfl, by (intro wz hSz; go_simp; try with_reducible rfl)⟩) hS0 ?_
  go_simp
  refine wpAnyH_take (i := 8) (v := ?_) rfl (by kernel_rfl) (by kernel_rfl) (by kernel_rfl) (fun _ _ _ h => h) (Or.inl ⟨by kernel_rfl, by (intro wz hSz; have c0_0 := cell_of_row _ _ 0 _ _ _ hSz.1; have c0_1 := cell_of_row _ _ 1 _ _ _ hSz.1; have c0_2 := cell_of_row _ _ 2 _ _ _ hSz.1; have c0_3 := cell_of_row _ _ 3 _ _ _ hSz.1; have c0_4 := cell_of_row _ _ 4 _ _ _ hSz.1; have c0_5 := cell_of_row _ _ 5 _ _ _ hSz.1; have c0_6 := cell_of_row _ _ 6 _ _ _ hSz.1; have c0_7 := cell_of_row _ _ 7 _ _ _ hSz.1; have c1_0 := cell_of_row _ _ 0 _ _ _ hSz.2; have c1_1 := cell_of_row _ _ 1 _ _ _ hSz.2; have c1_2 := cell_of_row _ _ 2 _ _ _ hSz.2; have c1_3 := cell_of_row _ _ 3 _ _ _ hSz.2; have c1_4 := cell_of_row _ _ 4 _ _ _ hSz.2; have c1_5 := cell_of_row _ _ 5 _ _ _ hSz.2; have c1_6 := cell_of_row _ _ 6 _ _ _ hSz.2; have c1_7 := cell_of_row _ _ 7 _ _ _ hSz.2; simp at c0_0 c0_1 c0_2 c0_3 c0_4 c0_5 c0_6 c0_7 c1_0 c1_1 c1_2 c1_3 c1_4 c1_5 c1_6 c1_7; go_simp; try with_reducible rfl)⟩) hS0 ?_
  go_simp
  refine wpAnyH_ready (rs := [9]) (by kernel_rfl) (by simp) ?_
  refine AllReadyH.cons rfl (fun K hK => ?_) AllReadyH.nil
  go_simp
  go_wp2_with (go_at_call 31; refine (hP _).mono ?_; rintro e y2 ⟨rfl, hb2⟩)
  have hr2_0 := (hb2.block _ (lt_heap hr1_0)).trans hr1_0
  have hr2_1 := (hb2.block _ (lt_heap hr1_1)).trans hr1_1
  have HU2 := Lib.hid (HU1.out.trans (hb2.mono HU1.out.size))
  refine hK.out _ _ (⟨(hb2.block _ (lt_heap hS0.1)).trans hS0.1, (hb2.block _ (lt_heap hS0.2)).trans hS0.2⟩) (fun hS2c => ?_)
  clear hK K
  refine wpAnyH_take (i := 10) (v := ?_) rfl (by kernel_rfl) (by kernel_rfl) (by kernel_rfl) (fun _ _ _ h => h) (Or.inl ⟨by kernel_rfl, by (intro wz hSz; go_simp; try with_reducible rfl)⟩) hS2c ?_
  go_simp
  refine wpAnyH_take (i := 11) (v := ?_) rfl (by kernel_rfl) (by kernel_rfl) (by kernel_rfl) (fun _ _ _ h => h) (Or.inl ⟨by kernel_rfl, by (intro wz hSz; go_simp; try with_reducible rfl)⟩) hS2c ?_
  go_simp
  refine wpAnyH_take (i := 12) (v := ?_) rfl (by kernel_rfl) (by kernel_rfl) (by kernel_rfl) (fun _ _ _ h => h) (Or.inl ⟨by kernel_rfl, by (intro wz hSz; go_simp; try with_reducible rfl)⟩) hS2c ?_
  go_simp
  refine wpAnyH_take (i := 13) (v := undef) rfl (by kernel_rfl) (by kernel_rfl) (by kernel_rfl) (fun _ _ _ h => h) (Or.inr ⟨by kernel_rfl, rfl⟩) hS2c ?_
  go_simp
  refine wpAnyH_take (i := 14) (v := undef) rfl (by kernel_rfl) (by kernel_rfl) (by kernel_rfl) (fun _ _ _ h => h) (Or.inr ⟨by kernel_rfl, rfl⟩) hS2c ?_
  go_simp
  refine wpAnyH_take (i := 15) (v := undef) rfl (by kernel_rfl) (by kernel_rfl) (by kernel_rfl) (fun _ _ _ h => h) (Or.inr ⟨by kernel_rfl, rfl⟩) hS2c ?_
  go_simp
  refine wpAnyH_take (i := 16) (v := undef) rfl (by kernel_rfl) (by kernel_rfl) (by kernel_rfl) (fun _ _ _ h => h) (Or.inr ⟨by kernel_rfl, rfl⟩) hS2c ?_
  go_simp
  refine wpAnyH_take (i := 17) (v := undef) rfl (by kernel_rfl) (by kernel_rfl) (by kernel_rfl) (fun _ _ _ h => h) (Or.inr ⟨by kernel_rfl, rfl⟩) hS2c ?_
  go_simp
  refine wpAnyH_take (i := 18) (v := undef) rfl (by kernel_rfl) (by kernel_rfl) (by kernel_rfl) (fun _ _ _ h => h) (Or.inr ⟨by kernel_rfl, rfl⟩) hS2c ?_
  go_simp
  refine wpAnyH_take (i := 19) (v := undef) rfl (by kernel_rfl) (by kernel_rfl) (by kernel_rfl) (fun _ _ _ h => h) (Or.inr ⟨by kernel_rfl, rfl⟩) hS2c ?_
  go_simp
  refine wpAnyH_take (i := 20) (v := undef) rfl (by kernel_rfl) (by kernel_rfl) (by kernel_rfl) (fun _ _ _ h => h) (Or.inr ⟨by kernel_rfl, rfl⟩) hS2c ?_
  go_simp
  refine wpAnyH_take (i := 21) (v := undef) rfl (by kernel_rfl) (by kernel_rfl) (by kernel_rfl) (fun _ _ _ h => h) (Or.inr ⟨by kernel_rfl, rfl⟩) hS2c ?_
  go_simp
  refine wpAnyH_take (i := 22) (v := undef) rfl (by kernel_rfl) (by kernel_rfl) (by kernel_rfl) (fun _ _ _ h => h) (Or.inr ⟨by kernel_rfl, rfl⟩) hS2c ?_
  go_simp
  refine wpAnyH_take (i := 23) (v := undef) rfl (by kernel_rfl) (by kernel_rfl) (by kernel_rfl) (fun _ _ _ h => h) (Or.inr ⟨by kernel_rfl, rfl⟩) hS2c ?_
  go_simp
  refine wpAnyH_take (i := 24) (v := undef) rfl (by kernel_rfl) (by kernel_rfl) (by kernel_rfl) (fun _ _ _ h => h) (Or.inr ⟨by kernel_rfl, rfl⟩) hS2c ?_
  go_simp
  refine wpAnyH_take (i := 25) (v := undef) rfl (by kernel_rfl) (by kernel_rfl) (by kernel_rfl) (fun _ _ _ h => h) (Or.inr ⟨by kernel_rfl, rfl⟩) hS2c ?_
  go_simp
  refine wpAnyH_take (i := 26) (v := undef) rfl (by kernel_rfl) (by kernel_rfl) (by kernel_rfl) (fun _ _ _ h => h) (Or.inr ⟨by kernel_rfl, rfl⟩) hS2c ?_
  go_simp
  refine wpAnyH_take (i := 27) (v := undef) rfl (by kernel_rfl) (by kernel_rfl) (by kernel_rfl) (fun _ _ _ h => h) (Or.inr ⟨by kernel_rfl, rfl⟩) hS2c ?_
  go_simp
  refine wpAnyH_take (i := 28) (v := ?_) rfl (by kernel_rfl) (by kernel_rfl) (by kernel_rfl) (fun _ _ _ h => h) (Or.inl ⟨by kernel_rfl, by (intro wz hSz; go_simp; try with_reducible rfl)⟩) hS2c ?_
  go_simp
  refine wpAnyH_take (i := 29) (v := ?_) rfl (by kernel_rfl) (by kernel_rfl) (by kernel_rfl) (fun _ _ _ h => h) (Or.inl ⟨by kernel_rfl, by (intro wz hSz; go_simp; try with_reducible rfl)⟩) hS2c ?_
  go_simp
  refine wpAnyH_take (i := 30) (v := undef) rfl (by kernel_rfl) (by kernel_rfl) (by kernel_rfl) (fun _ _ _ h => h) (Or.inr ⟨by kernel_rfl, rfl⟩) hS2c ?_
  go_simp
  refine wpAnyH_take (i := 31) (v := undef) rfl (by kernel_rfl) (by kernel_rfl) (by kernel_rfl) (fun _ _ _ h => h) (Or.inr ⟨by kernel_rfl, rfl⟩) hS2c ?_
  go_simp
  refine wpAnyH_take (i := 32) (v := undef) rfl (by kernel_rfl) (by kernel_rfl) (by kernel_rfl) (fun _ _ _ h => h) (Or.inr ⟨by kernel_rfl, rfl⟩) hS2c ?_
  go_simp
  refine wpAnyH_take (i := 33) (v := undef) rfl (by kernel_rfl) (by kernel_rfl) (by kernel_rfl) (fun _ _ _ h => h) (Or.inr ⟨by kernel_rfl, rfl⟩) hS2c ?_
  go_simp
  refine wpAnyH_take (i := 34) (v := undef) rfl (by kernel_rfl) (by kernel_rfl) (by kernel_rfl) (fun _ _ _ h => h) (Or.inr ⟨by kernel_rfl, rfl⟩) hS2c ?_
  go_simp
  refine wpAnyH_take (i := 35) (v := undef) rfl (by kernel_rfl) (by kernel_rfl) (by kernel_rfl) (fun _ _ _ h => h) (Or.inr ⟨by kernel_rfl, rfl⟩) hS2c ?_
  go_simp
  refine wpAnyH_take (i := 36) (v := undef) rfl (by kernel_rfl) (by kernel_rfl) (by kernel_rfl) (fun _ _ _ h => h) (Or.inr ⟨by kernel_rfl, rfl⟩) hS2c ?_
  go_simp
  refine wpAnyH_take (i := 37) (v := undef) rfl (by kernel_rfl) (by kernel_rfl) (by kernel_rfl) (fun _ _ _ h => h) (Or.inr ⟨by kernel_rfl, rfl⟩) hS2c ?_
  go_simp
  refine wpAnyH_take (i := 38) (v := undef) rfl (by kernel_rfl) (by kernel_rfl) (by kernel_rfl) (fun _ _ _ h => h) (Or.inr ⟨by kernel_rfl, rfl⟩) hS2c ?_
  go_simp
  refine wpAnyH_take (i := 39) (v := undef) rfl (by kernel_rfl) (by kernel_rfl) (by kernel_rfl) (fun _ _ _ h => h) (Or.inr ⟨by kernel_rfl, rfl⟩) hS2c ?_
  go_simp
  refine wpAnyH_take (i := 40) (v := undef) rfl (by kernel_rfl) (by kernel_rfl) (by kernel_rfl) (fun _ _ _ h => h) (Or.inr ⟨by kernel_rfl, rfl⟩) hS2c ?_
  go_simp
  refine wpAnyH_take (i := 41) (v := undef) rfl (by kernel_rfl) (by kernel_rfl) (by kernel_rfl) (fun _ _ _ h => h) (Or.inr ⟨by kernel_rfl, rfl⟩) hS2c ?_
  go_simp
  refine wpAnyH_take (i := 42) (v := undef) rfl (by kernel_rfl) (by kernel_rfl) (by kernel_rfl) (fun _ _ _ h => h) (Or.inr ⟨by kernel_rfl, rfl⟩) hS2c ?_
  go_simp
  refine wpAnyH_take (i := 43) (v := undef) rfl (by kernel_rfl) (by kernel_rfl) (by kernel_rfl) (fun _ _ _ h => h) (Or.inr ⟨by kernel_rfl, rfl⟩) hS2c ?_
  go_simp
  refine wpAnyH_take (i := 44) (v := undef) rfl (by kernel_rfl) (by kernel_rfl) (by kernel_rfl) (fun _ _ _ h => h) (Or.inr ⟨by kernel_rfl, rfl⟩) hS2c ?_
  go_simp
  refine wpAnyH_take (i := 45) (v := undef) rfl (by kernel_rfl) (by kernel_rfl) (by kernel_rfl) (fun _ _ _ h => h) (Or.inr ⟨by kernel_rfl, rfl⟩) hS2c ?_
  go_simp
  refine wpAnyH_take (i := 46) (v := ?_) rfl (by kernel_rfl) (by kernel_rfl) (by kernel_rfl) (fun _ _ _ h => h) (Or.inl ⟨by kernel_rfl, by (intro wz hSz; go_simp; try with_reducible rfl)⟩) hS2c ?_
  go_simp
  refine wpAnyH_done (by kernel_rfl) ?_ _
  go_wp2
  exact bodyPost_ret (v := .tuple #[.int .i64 0, .bool false]) (by simp [results, Try.results25, go_sem]) rfl ⟨rfl, HU2.out⟩

set_option maxHeartbeats 4000000 in
set_option maxRecDepth 100000 in
theorem past_shape (W H W2 H2 : Int) (al ad an ab al2 ad2 an2 ab2 af2 : Option Addr) (fb fo xb xo xb2 xo2 cl cd cn cb cx cf nl nd nn nb ns nf cl2 cd2 cn2 cb2 cx2 cf2 nl2 nd2 nn2 nb2 ns2 nf2 : Nat) (w y0 : World) (hU : Below w.heap.size w y0) (bn bw : Nat) (hr0_0 : y0.heap[bn]? = some (.cells #[.int .i64 W, .int .i64 H, .slice al nl cl, .slice ad nd cd, .slice an nn cn, .slice ab nb cb, .slice (some ⟨xb, xo, none⟩) ns cx, .slice (some ⟨fb, fo, none⟩) nf cf] 40 (0, 0))) (hr0_1 : y0.heap[bw]? = some (.cells #[.int .i64 W2, .int .i64 H2, .slice al2 nl2 cl2, .slice ad2 nd2 cd2, .slice an2 nn2 cn2, .slice ab2 nb2 cb2, .slice (some ⟨xb2, xo2, none⟩) ns2 cx2, .slice af2 nf2 cf2] 40 (0, 0))) (i : Nat) (hi : i < nf) (hsn : ns = nf) (hnn : nn = nf) (k : Nat) (eF : y0.cell? ⟨fb, fo + i, none⟩ = some (.int .i64 (k : Int))) (hk : k < ns2) (hn2 : nn2 = ns2) (s1 s2 : Int) (eS : y0.cell? ⟨xb, xo + i, none⟩ = some (.int .i64 s1)) (eS2 : y0.cell? ⟨xb2, xo2 + k, none⟩ = some (.int .i64 s2)) (hs : ¬ s1 = s2) (m : Int) (hm : m = ns2) (hP : ∀ W : World, Calls Try.prog 31 #[.agg #[.int .i64 W2, .int .i64 H2]] W fun e' w' => e' = .returned (.int .i64 m) ∧ Below W.heap.size W w') : Calls Try.prog 25 #[.pointer (some ⟨bn, 0, none⟩), .pointer (some ⟨bw, 0, none⟩), .int .i64 i] y0 fun e' w' => e' = .returned (.tuple #[.int .i64 0, .bool false]) ∧ Below w.heap.size w w' := by
  have hi' : (i : Int) < nf := by omega
  have hi2 : (i : Int) < ns := by omega
  have hi3 : (i : Int) < nn := by omega
  have d0 : decide ((k : Int) < 0) = false := decide_eq_false (by omega)
  have d1 : decide (m ≤ (k : Int)) = false := decide_eq_false (by omega)
  have hk2 : (k : Int) < ns2 := by omega
  have hk3 : (k : Int) < nn2 := by omega
  have d2 : (s1 != s2) = true := by simpa using hs
  have HU0 := Lib.hid hU
  clear hU hsn hnn hm hs hn2
  go_enter Try.func25, Try.ntmps25
  have c0_0 := cell_of_row _ _ 0 _ _ _ hr0_0
  have c0_1 := cell_of_row _ _ 1 _ _ _ hr0_0
  have c0_2 := cell_of_row _ _ 2 _ _ _ hr0_0
  have c0_3 := cell_of_row _ _ 3 _ _ _ hr0_0
  have c0_4 := cell_of_row _ _ 4 _ _ _ hr0_0
  have c0_5 := cell_of_row _ _ 5 _ _ _ hr0_0
  have c0_6 := cell_of_row _ _ 6 _ _ _ hr0_0
  have c0_7 := cell_of_row _ _ 7 _ _ _ hr0_0
  have c1_0 := cell_of_row _ _ 0 _ _ _ hr0_1
  have c1_1 := cell_of_row _ _ 1 _ _ _ hr0_1
  have c1_2 := cell_of_row _ _ 2 _ _ _ hr0_1
  have c1_3 := cell_of_row _ _ 3 _ _ _ hr0_1
  have c1_4 := cell_of_row _ _ 4 _ _ _ hr0_1
  have c1_5 := cell_of_row _ _ 5 _ _ _ hr0_1
  have c1_6 := cell_of_row _ _ 6 _ _ _ hr0_1
  have c1_7 := cell_of_row _ _ 7 _ _ _ hr0_1
  simp at c0_0 c0_1 c0_2 c0_3 c0_4 c0_5 c0_6 c0_7 c1_0 c1_1 c1_2 c1_3 c1_4 c1_5 c1_6 c1_7
  go_upto_region 2 with fail
  clear c0_0 c0_1 c0_2 c0_3 c0_4 c0_5 c0_6 c0_7 c1_0 c1_1 c1_2 c1_3 c1_4 c1_5 c1_6 c1_7
  refine wp_region_held_drew (S := fun y => y.heap[bn]? = some (.cells #[.int .i64 W, .int .i64 H, .slice al nl cl, .slice ad nd cd, .slice an nn cn, .slice ab nb cb, .slice (some ⟨xb, xo, none⟩) ns cx, .slice (some ⟨fb, fo, none⟩) nf cf] 40 (0, 0)) ∧ y.heap[bw]? = some (.cells #[.int .i64 W2, .int .i64 H2, .slice al2 nl2 cl2, .slice ad2 nd2 cd2, .slice an2 nn2 cn2, .slice ab2 nb2 cb2, .slice (some ⟨xb2, xo2, none⟩) ns2 cx2, .slice af2 nf2 cf2] 40 (0, 0)) ∧ y.cell? ⟨xb, xo + i, none⟩ = some (.int .i64 s1) ∧ y.cell? ⟨xb2, xo2 + k, none⟩ = some (.int .i64 s2)) (by kernel_rfl) (⟨hr0_0, hr0_1, eS, eS2⟩) (fun hS0 => ?_)
  obtain ⟨y1, hy1⟩ : ∃ y, y0.drew = y := ⟨_, rfl⟩
  have HU1 := Lib.hid (show Below w.heap.size w y1 by rw [← hy1]; exact HU0.out.drew)
  have hr1_0 : y1.heap[bn]? = some (.cells #[.int .i64 W, .int .i64 H, .slice al nl cl, .slice ad nd cd, .slice an nn cn, .slice ab nb cb, .slice (some ⟨xb, xo, none⟩) ns cx, .slice (some ⟨fb, fo, none⟩) nf cf] 40 (0, 0)) := by rw [← hy1]; exact hr0_0
  have hr1_1 : y1.heap[bw]? = some (.cells #[.int .i64 W2, .int .i64 H2, .slice al2 nl2 cl2, .slice ad2 nd2 cd2, .slice an2 nn2 cn2, .slice ab2 nb2 cb2, .slice (some ⟨xb2, xo2, none⟩) ns2 cx2, .slice af2 nf2 cf2] 40 (0, 0)) := by rw [← hy1]; exact hr0_1
  rw [hy1] at hS0 ⊢
  clear hy1
  refine wpAnyH_take (i := 0) (v := ?_) rfl (by kernel_rfl) (by kernel_rfl) (by kernel_rfl) (fun _ _ _ h => h) (Or.inl ⟨by kernel_rfl, by (intro wz hSz; go_simp; try with_reducible rfl)⟩) hS0 ?_
  go_simp
  refine wpAnyH_take (i := 1) (v := ?_) rfl (by kernel_rfl) (by kernel_rfl) (by kernel_rfl) (fun _ _ _ h => h) (Or.inl ⟨by kernel_rfl, by (intro wz hSz; go_simp; try with_reducible rfl)⟩) hS0 ?_
  go_simp
  refine wpAnyH_take (i := 2) (v := ?_) rfl (by kernel_rfl) (by kernel_rfl) (by kernel_rfl) (fun _ _ _ h => h) (Or.inl ⟨by kernel_rfl, by (intro wz hSz; go_simp; try with_reducible rfl)⟩) hS0 ?_
  go_simp
  refine wpAnyH_take (i := 3) (v := ?_) rfl (by kernel_rfl) (by kernel_rfl) (by kernel_rfl) (fun _ _ _ h => h) (Or.inl ⟨by kernel_rfl, by (intro wz hSz; go_simp; try with_reducible rfl)⟩) hS0 ?_
  go_simp
  refine wpAnyH_take (i := 4) (v := ?_) rfl (by kernel_rfl) (by kernel_rfl) (by kernel_rfl) (fun _ _ _ h => h) (Or.inl ⟨by kernel_rfl, by (intro wz hSz; go_simp; try with_reducible rfl)⟩) hS0 ?_
  go_simp
  refine wpAnyH_take (i := 5) (v := ?_) rfl (by kernel_rfl) (by kernel_rfl) (by kernel_rfl) (fun _ _ _ h => h) (Or.inl ⟨by kernel_rfl, by (intro wz hSz; go_simp; try with_reducible rfl)⟩) hS0 ?_
  go_simp
  refine wpAnyH_take (i := 6) (v := ?_) rfl (by kernel_rfl) (by kernel_rfl) (by kernel_rfl) (fun _ _ _ h => h) (Or.inl ⟨by kernel_rfl, by (intro wz hSz; go_simp; try with_reducible rfl)⟩) hS0 ?_
  go_simp
  refine wpAnyH_take (i := 7) (v := ?_) rfl (by kernel_rfl) (by kernel_rfl) (by kernel_rfl) (fun _ _ _ h => h) (Or.inl ⟨by kernel_rfl, by (intro wz hSz; go_simp; try with_reducible rfl)⟩) hS0 ?_
  go_simp
  refine wpAnyH_take (i := 8) (v := ?_) rfl (by kernel_rfl) (by kernel_rfl) (by kernel_rfl) (fun _ _ _ h => h) (Or.inl ⟨by kernel_rfl, by (intro wz hSz; have c0_0 := cell_of_row _ _ 0 _ _ _ hSz.1; have c0_1 := cell_of_row _ _ 1 _ _ _ hSz.1; have c0_2 := cell_of_row _ _ 2 _ _ _ hSz.1; have c0_3 := cell_of_row _ _ 3 _ _ _ hSz.1; have c0_4 := cell_of_row _ _ 4 _ _ _ hSz.1; have c0_5 := cell_of_row _ _ 5 _ _ _ hSz.1; have c0_6 := cell_of_row _ _ 6 _ _ _ hSz.1; have c0_7 := cell_of_row _ _ 7 _ _ _ hSz.1; have c1_0 := cell_of_row _ _ 0 _ _ _ hSz.2.1; have c1_1 := cell_of_row _ _ 1 _ _ _ hSz.2.1; have c1_2 := cell_of_row _ _ 2 _ _ _ hSz.2.1; have c1_3 := cell_of_row _ _ 3 _ _ _ hSz.2.1; have c1_4 := cell_of_row _ _ 4 _ _ _ hSz.2.1; have c1_5 := cell_of_row _ _ 5 _ _ _ hSz.2.1; have c1_6 := cell_of_row _ _ 6 _ _ _ hSz.2.1; have c1_7 := cell_of_row _ _ 7 _ _ _ hSz.2.1; simp at c0_0 c0_1 c0_2 c0_3 c0_4 c0_5 c0_6 c0_7 c1_0 c1_1 c1_2 c1_3 c1_4 c1_5 c1_6 c1_7; have eSz := hSz.2.2.1; have eS2z := hSz.2.2.2; go_simp; try with_reducible rfl)⟩) hS0 ?_
  go_simp
  refine wpAnyH_ready (rs := [9]) (by kernel_rfl) (by simp) ?_
  refine AllReadyH.cons rfl (fun K hK => ?_) AllReadyH.nil
  go_simp
  go_wp2_with (go_at_call 31; refine (hP _).mono ?_; rintro e y2 ⟨rfl, hb2⟩)
  have hr2_0 := (hb2.block _ (lt_heap hr1_0)).trans hr1_0
  have hr2_1 := (hb2.block _ (lt_heap hr1_1)).trans hr1_1
  have HU2 := Lib.hid (HU1.out.trans (hb2.mono HU1.out.size))
  refine hK.out _ _ (⟨(hb2.block _ (lt_heap hS0.1)).trans hS0.1, (hb2.block _ (lt_heap hS0.2.1)).trans hS0.2.1, (hb2.cell (p := ⟨xb, xo + i, none⟩) (World.block_lt_of_cell? _ _ (hS0.2.2.1))).trans hS0.2.2.1, (hb2.cell (p := ⟨xb2, xo2 + k, none⟩) (World.block_lt_of_cell? _ _ (hS0.2.2.2))).trans hS0.2.2.2⟩) (fun hS2c => ?_)
  clear hK K
  refine wpAnyH_take (i := 10) (v := ?_) rfl (by kernel_rfl) (by kernel_rfl) (by kernel_rfl) (fun _ _ _ h => h) (Or.inl ⟨by kernel_rfl, by (intro wz hSz; go_simp; try with_reducible rfl)⟩) hS2c ?_
  go_simp
  refine wpAnyH_take (i := 11) (v := ?_) rfl (by kernel_rfl) (by kernel_rfl) (by kernel_rfl) (fun _ _ _ h => h) (Or.inl ⟨by kernel_rfl, by (intro wz hSz; go_simp; try with_reducible rfl)⟩) hS2c ?_
  go_simp
  refine wpAnyH_take (i := 12) (v := ?_) rfl (by kernel_rfl) (by kernel_rfl) (by kernel_rfl) (fun _ _ _ h => h) (Or.inl ⟨by kernel_rfl, by (intro wz hSz; go_simp; try with_reducible rfl)⟩) hS2c ?_
  go_simp
  refine wpAnyH_take (i := 13) (v := ?_) rfl (by kernel_rfl) (by kernel_rfl) (by kernel_rfl) (fun _ _ _ h => h) (Or.inl ⟨by kernel_rfl, by (intro wz hSz; go_simp; try with_reducible rfl)⟩) hS2c ?_
  go_simp
  refine wpAnyH_take (i := 14) (v := ?_) rfl (by kernel_rfl) (by kernel_rfl) (by kernel_rfl) (fun _ _ _ h => h) (Or.inl ⟨by kernel_rfl, by (intro wz hSz; go_simp; try with_reducible rfl)⟩) hS2c ?_
  go_simp
  refine wpAnyH_take (i := 15) (v := ?_) rfl (by kernel_rfl) (by kernel_rfl) (by kernel_rfl) (fun _ _ _ h => h) (Or.inl ⟨by kernel_rfl, by (intro wz hSz; go_simp; try with_reducible rfl)⟩) hS2c ?_
  go_simp
  refine wpAnyH_take (i := 16) (v := ?_) rfl (by kernel_rfl) (by kernel_rfl) (by kernel_rfl) (fun _ _ _ h => h) (Or.inl ⟨by kernel_rfl, by (intro wz hSz; have c0_0 := cell_of_row _ _ 0 _ _ _ hSz.1; have c0_1 := cell_of_row _ _ 1 _ _ _ hSz.1; have c0_2 := cell_of_row _ _ 2 _ _ _ hSz.1; have c0_3 := cell_of_row _ _ 3 _ _ _ hSz.1; have c0_4 := cell_of_row _ _ 4 _ _ _ hSz.1; have c0_5 := cell_of_row _ _ 5 _ _ _ hSz.1; have c0_6 := cell_of_row _ _ 6 _ _ _ hSz.1; have c0_7 := cell_of_row _ _ 7 _ _ _ hSz.1; have c1_0 := cell_of_row _ _ 0 _ _ _ hSz.2.1; have c1_1 := cell_of_row _ _ 1 _ _ _ hSz.2.1; have c1_2 := cell_of_row _ _ 2 _ _ _ hSz.2.1; have c1_3 := cell_of_row _ _ 3 _ _ _ hSz.2.1; have c1_4 := cell_of_row _ _ 4 _ _ _ hSz.2.1; have c1_5 := cell_of_row _ _ 5 _ _ _ hSz.2.1; have c1_6 := cell_of_row _ _ 6 _ _ _ hSz.2.1; have c1_7 := cell_of_row _ _ 7 _ _ _ hSz.2.1; simp at c0_0 c0_1 c0_2 c0_3 c0_4 c0_5 c0_6 c0_7 c1_0 c1_1 c1_2 c1_3 c1_4 c1_5 c1_6 c1_7; have eSz := hSz.2.2.1; have eS2z := hSz.2.2.2; go_simp; try with_reducible rfl)⟩) hS2c ?_
  go_simp
  refine wpAnyH_take (i := 17) (v := ?_) rfl (by kernel_rfl) (by kernel_rfl) (by kernel_rfl) (fun _ _ _ h => h) (Or.inl ⟨by kernel_rfl, by (intro wz hSz; go_simp; try with_reducible rfl)⟩) hS2c ?_
  go_simp
  refine wpAnyH_take (i := 18) (v := ?_) rfl (by kernel_rfl) (by kernel_rfl) (by kernel_rfl) (fun _ _ _ h => h) (Or.inl ⟨by kernel_rfl, by (intro wz hSz; go_simp; try with_reducible rfl)⟩) hS2c ?_
  go_simp
  refine wpAnyH_take (i := 19) (v := ?_) rfl (by kernel_rfl) (by kernel_rfl) (by kernel_rfl) (fun _ _ _ h => h) (Or.inl ⟨by kernel_rfl, by (intro wz hSz; have c0_0 := cell_of_row _ _ 0 _ _ _ hSz.1; have c0_1 := cell_of_row _ _ 1 _ _ _ hSz.1; have c0_2 := cell_of_row _ _ 2 _ _ _ hSz.1; have c0_3 := cell_of_row _ _ 3 _ _ _ hSz.1; have c0_4 := cell_of_row _ _ 4 _ _ _ hSz.1; have c0_5 := cell_of_row _ _ 5 _ _ _ hSz.1; have c0_6 := cell_of_row _ _ 6 _ _ _ hSz.1; have c0_7 := cell_of_row _ _ 7 _ _ _ hSz.1; have c1_0 := cell_of_row _ _ 0 _ _ _ hSz.2.1; have c1_1 := cell_of_row _ _ 1 _ _ _ hSz.2.1; have c1_2 := cell_of_row _ _ 2 _ _ _ hSz.2.1; have c1_3 := cell_of_row _ _ 3 _ _ _ hSz.2.1; have c1_4 := cell_of_row _ _ 4 _ _ _ hSz.2.1; have c1_5 := cell_of_row _ _ 5 _ _ _ hSz.2.1; have c1_6 := cell_of_row _ _ 6 _ _ _ hSz.2.1; have c1_7 := cell_of_row _ _ 7 _ _ _ hSz.2.1; simp at c0_0 c0_1 c0_2 c0_3 c0_4 c0_5 c0_6 c0_7 c1_0 c1_1 c1_2 c1_3 c1_4 c1_5 c1_6 c1_7; have eSz := hSz.2.2.1; have eS2z := hSz.2.2.2; go_simp; try with_reducible rfl)⟩) hS2c ?_
  go_simp
  refine wpAnyH_take (i := 20) (v := ?_) rfl (by kernel_rfl) (by kernel_rfl) (by kernel_rfl) (fun _ _ _ h => h) (Or.inl ⟨by kernel_rfl, by (intro wz hSz; go_simp; try with_reducible rfl)⟩) hS2c ?_
  go_simp
  refine wpAnyH_take (i := 21) (v := ?_) rfl (by kernel_rfl) (by kernel_rfl) (by kernel_rfl) (fun _ _ _ h => h) (Or.inl ⟨by kernel_rfl, by (intro wz hSz; go_simp; try with_reducible rfl)⟩) hS2c ?_
  go_simp
  refine wpAnyH_take (i := 22) (v := ?_) rfl (by kernel_rfl) (by kernel_rfl) (by kernel_rfl) (fun _ _ _ h => h) (Or.inl ⟨by kernel_rfl, by (intro wz hSz; go_simp; try with_reducible rfl)⟩) hS2c ?_
  go_simp
  refine wpAnyH_take (i := 23) (v := ?_) rfl (by kernel_rfl) (by kernel_rfl) (by kernel_rfl) (fun _ _ _ h => h) (Or.inl ⟨by kernel_rfl, by (intro wz hSz; have c0_0 := cell_of_row _ _ 0 _ _ _ hSz.1; have c0_1 := cell_of_row _ _ 1 _ _ _ hSz.1; have c0_2 := cell_of_row _ _ 2 _ _ _ hSz.1; have c0_3 := cell_of_row _ _ 3 _ _ _ hSz.1; have c0_4 := cell_of_row _ _ 4 _ _ _ hSz.1; have c0_5 := cell_of_row _ _ 5 _ _ _ hSz.1; have c0_6 := cell_of_row _ _ 6 _ _ _ hSz.1; have c0_7 := cell_of_row _ _ 7 _ _ _ hSz.1; have c1_0 := cell_of_row _ _ 0 _ _ _ hSz.2.1; have c1_1 := cell_of_row _ _ 1 _ _ _ hSz.2.1; have c1_2 := cell_of_row _ _ 2 _ _ _ hSz.2.1; have c1_3 := cell_of_row _ _ 3 _ _ _ hSz.2.1; have c1_4 := cell_of_row _ _ 4 _ _ _ hSz.2.1; have c1_5 := cell_of_row _ _ 5 _ _ _ hSz.2.1; have c1_6 := cell_of_row _ _ 6 _ _ _ hSz.2.1; have c1_7 := cell_of_row _ _ 7 _ _ _ hSz.2.1; simp at c0_0 c0_1 c0_2 c0_3 c0_4 c0_5 c0_6 c0_7 c1_0 c1_1 c1_2 c1_3 c1_4 c1_5 c1_6 c1_7; have eSz := hSz.2.2.1; have eS2z := hSz.2.2.2; go_simp; try with_reducible rfl)⟩) hS2c ?_
  go_simp
  refine wpAnyH_take (i := 24) (v := ?_) rfl (by kernel_rfl) (by kernel_rfl) (by kernel_rfl) (fun _ _ _ h => h) (Or.inl ⟨by kernel_rfl, by (intro wz hSz; go_simp; try with_reducible rfl)⟩) hS2c ?_
  go_simp
  refine wpAnyH_take (i := 25) (v := ?_) rfl (by kernel_rfl) (by kernel_rfl) (by kernel_rfl) (fun _ _ _ h => h) (Or.inl ⟨by kernel_rfl, by (intro wz hSz; go_simp; try with_reducible rfl)⟩) hS2c ?_
  go_simp
  refine wpAnyH_take (i := 26) (v := ?_) rfl (by kernel_rfl) (by kernel_rfl) (by kernel_rfl) (fun _ _ _ h => h) (Or.inl ⟨by kernel_rfl, by (intro wz hSz; have c0_0 := cell_of_row _ _ 0 _ _ _ hSz.1; have c0_1 := cell_of_row _ _ 1 _ _ _ hSz.1; have c0_2 := cell_of_row _ _ 2 _ _ _ hSz.1; have c0_3 := cell_of_row _ _ 3 _ _ _ hSz.1; have c0_4 := cell_of_row _ _ 4 _ _ _ hSz.1; have c0_5 := cell_of_row _ _ 5 _ _ _ hSz.1; have c0_6 := cell_of_row _ _ 6 _ _ _ hSz.1; have c0_7 := cell_of_row _ _ 7 _ _ _ hSz.1; have c1_0 := cell_of_row _ _ 0 _ _ _ hSz.2.1; have c1_1 := cell_of_row _ _ 1 _ _ _ hSz.2.1; have c1_2 := cell_of_row _ _ 2 _ _ _ hSz.2.1; have c1_3 := cell_of_row _ _ 3 _ _ _ hSz.2.1; have c1_4 := cell_of_row _ _ 4 _ _ _ hSz.2.1; have c1_5 := cell_of_row _ _ 5 _ _ _ hSz.2.1; have c1_6 := cell_of_row _ _ 6 _ _ _ hSz.2.1; have c1_7 := cell_of_row _ _ 7 _ _ _ hSz.2.1; simp at c0_0 c0_1 c0_2 c0_3 c0_4 c0_5 c0_6 c0_7 c1_0 c1_1 c1_2 c1_3 c1_4 c1_5 c1_6 c1_7; have eSz := hSz.2.2.1; have eS2z := hSz.2.2.2; go_simp; try with_reducible rfl)⟩) hS2c ?_
  go_simp
  refine wpAnyH_take (i := 27) (v := ?_) rfl (by kernel_rfl) (by kernel_rfl) (by kernel_rfl) (fun _ _ _ h => h) (Or.inl ⟨by kernel_rfl, by (intro wz hSz; go_simp; try with_reducible rfl)⟩) hS2c ?_
  go_simp
  refine wpAnyH_take (i := 28) (v := ?_) rfl (by kernel_rfl) (by kernel_rfl) (by kernel_rfl) (fun _ _ _ h => h) (Or.inl ⟨by kernel_rfl, by (intro wz hSz; go_simp; try with_reducible rfl)⟩) hS2c ?_
  go_simp
  refine wpAnyH_take (i := 29) (v := ?_) rfl (by kernel_rfl) (by kernel_rfl) (by kernel_rfl) (fun _ _ _ h => h) (Or.inl ⟨by kernel_rfl, by (intro wz hSz; go_simp; try with_reducible rfl)⟩) hS2c ?_
  go_simp
  refine wpAnyH_take (i := 30) (v := undef) rfl (by kernel_rfl) (by kernel_rfl) (by kernel_rfl) (fun _ _ _ h => h) (Or.inr ⟨by kernel_rfl, rfl⟩) hS2c ?_
  go_simp
  refine wpAnyH_take (i := 31) (v := undef) rfl (by kernel_rfl) (by kernel_rfl) (by kernel_rfl) (fun _ _ _ h => h) (Or.inr ⟨by kernel_rfl, rfl⟩) hS2c ?_
  go_simp
  refine wpAnyH_take (i := 32) (v := undef) rfl (by kernel_rfl) (by kernel_rfl) (by kernel_rfl) (fun _ _ _ h => h) (Or.inr ⟨by kernel_rfl, rfl⟩) hS2c ?_
  go_simp
  refine wpAnyH_take (i := 33) (v := undef) rfl (by kernel_rfl) (by kernel_rfl) (by kernel_rfl) (fun _ _ _ h => h) (Or.inr ⟨by kernel_rfl, rfl⟩) hS2c ?_
  go_simp
  refine wpAnyH_take (i := 34) (v := undef) rfl (by kernel_rfl) (by kernel_rfl) (by kernel_rfl) (fun _ _ _ h => h) (Or.inr ⟨by kernel_rfl, rfl⟩) hS2c ?_
  go_simp
  refine wpAnyH_take (i := 35) (v := undef) rfl (by kernel_rfl) (by kernel_rfl) (by kernel_rfl) (fun _ _ _ h => h) (Or.inr ⟨by kernel_rfl, rfl⟩) hS2c ?_
  go_simp
  refine wpAnyH_take (i := 36) (v := undef) rfl (by kernel_rfl) (by kernel_rfl) (by kernel_rfl) (fun _ _ _ h => h) (Or.inr ⟨by kernel_rfl, rfl⟩) hS2c ?_
  go_simp
  refine wpAnyH_take (i := 37) (v := undef) rfl (by kernel_rfl) (by kernel_rfl) (by kernel_rfl) (fun _ _ _ h => h) (Or.inr ⟨by kernel_rfl, rfl⟩) hS2c ?_
  go_simp
  refine wpAnyH_take (i := 38) (v := undef) rfl (by kernel_rfl) (by kernel_rfl) (by kernel_rfl) (fun _ _ _ h => h) (Or.inr ⟨by kernel_rfl, rfl⟩) hS2c ?_
  go_simp
  refine wpAnyH_take (i := 39) (v := undef) rfl (by kernel_rfl) (by kernel_rfl) (by kernel_rfl) (fun _ _ _ h => h) (Or.inr ⟨by kernel_rfl, rfl⟩) hS2c ?_
  go_simp
  refine wpAnyH_take (i := 40) (v := undef) rfl (by kernel_rfl) (by kernel_rfl) (by kernel_rfl) (fun _ _ _ h => h) (Or.inr ⟨by kernel_rfl, rfl⟩) hS2c ?_
  go_simp
  refine wpAnyH_take (i := 41) (v := undef) rfl (by kernel_rfl) (by kernel_rfl) (by kernel_rfl) (fun _ _ _ h => h) (Or.inr ⟨by kernel_rfl, rfl⟩) hS2c ?_
  go_simp
  refine wpAnyH_take (i := 42) (v := undef) rfl (by kernel_rfl) (by kernel_rfl) (by kernel_rfl) (fun _ _ _ h => h) (Or.inr ⟨by kernel_rfl, rfl⟩) hS2c ?_
  go_simp
  refine wpAnyH_take (i := 43) (v := undef) rfl (by kernel_rfl) (by kernel_rfl) (by kernel_rfl) (fun _ _ _ h => h) (Or.inr ⟨by kernel_rfl, rfl⟩) hS2c ?_
  go_simp
  refine wpAnyH_take (i := 44) (v := undef) rfl (by kernel_rfl) (by kernel_rfl) (by kernel_rfl) (fun _ _ _ h => h) (Or.inr ⟨by kernel_rfl, rfl⟩) hS2c ?_
  go_simp
  refine wpAnyH_take (i := 45) (v := undef) rfl (by kernel_rfl) (by kernel_rfl) (by kernel_rfl) (fun _ _ _ h => h) (Or.inr ⟨by kernel_rfl, rfl⟩) hS2c ?_
  go_simp
  refine wpAnyH_take (i := 46) (v := ?_) rfl (by kernel_rfl) (by kernel_rfl) (by kernel_rfl) (fun _ _ _ h => h) (Or.inl ⟨by kernel_rfl, by (intro wz hSz; go_simp; try with_reducible rfl)⟩) hS2c ?_
  go_simp
  refine wpAnyH_done (by kernel_rfl) ?_ _
  go_wp2
  exact bodyPost_ret (v := .tuple #[.int .i64 0, .bool false]) (by simp [results, Try.results25, go_sem]) rfl ⟨rfl, HU2.out⟩

set_option maxHeartbeats 4000000 in
set_option maxRecDepth 100000 in
theorem past_dot (W H W2 H2 : Int) (al ad ab al2 ad2 ab2 af2 : Option Addr) (fb fo xb xo xb2 xo2 vb vo vb2 vo2 cl cd cn cb cx cf nl nd nn nb ns nf cl2 cd2 cn2 cb2 cx2 cf2 nl2 nd2 nn2 nb2 ns2 nf2 : Nat) (w y0 : World) (hU : Below w.heap.size w y0) (bn bw : Nat) (hr0_0 : y0.heap[bn]? = some (.cells #[.int .i64 W, .int .i64 H, .slice al nl cl, .slice ad nd cd, .slice (some ⟨vb, vo, none⟩) nn cn, .slice ab nb cb, .slice (some ⟨xb, xo, none⟩) ns cx, .slice (some ⟨fb, fo, none⟩) nf cf] 40 (0, 0))) (hr0_1 : y0.heap[bw]? = some (.cells #[.int .i64 W2, .int .i64 H2, .slice al2 nl2 cl2, .slice ad2 nd2 cd2, .slice (some ⟨vb2, vo2, none⟩) nn2 cn2, .slice ab2 nb2 cb2, .slice (some ⟨xb2, xo2, none⟩) ns2 cx2, .slice af2 nf2 cf2] 40 (0, 0))) (i : Nat) (hi : i < nf) (hsn : ns = nf) (hnn : nn = nf) (k : Nat) (eF : y0.cell? ⟨fb, fo + i, none⟩ = some (.int .i64 (k : Int))) (hk : k < ns2) (hn2 : nn2 = ns2) (s1 s2 : Int) (eS : y0.cell? ⟨xb, xo + i, none⟩ = some (.int .i64 s1)) (eS2 : y0.cell? ⟨xb2, xo2 + k, none⟩ = some (.int .i64 s2)) (hs : s1 = s2) (a1 a2 a3 : Int) (ea1 : y0.cell? ⟨vb, vo + i * 3, none⟩ = some (.int .i64 a1)) (ea2 : y0.cell? ⟨vb, vo + i * 3 + 1, none⟩ = some (.int .i64 a2)) (ea3 : y0.cell? ⟨vb, vo + i * 3 + 2, none⟩ = some (.int .i64 a3)) (b1 b2 b3 : Int) (eb1 : y0.cell? ⟨vb2, vo2 + k * 3, none⟩ = some (.int .i64 b1)) (eb2 : y0.cell? ⟨vb2, vo2 + k * 3 + 1, none⟩ = some (.int .i64 b2)) (eb3 : y0.cell? ⟨vb2, vo2 + k * 3 + 2, none⟩ = some (.int .i64 b3)) (z : Int) (hz : z < 57344) (m : Int) (hm : m = ns2) (hP : ∀ W : World, Calls Try.prog 31 #[.agg #[.int .i64 W2, .int .i64 H2]] W fun e' w' => e' = .returned (.int .i64 m) ∧ Below W.heap.size W w') (hT : ∀ W : World, Calls Try.prog 35 #[.agg #[.int .i64 a1, .int .i64 a2, .int .i64 a3], .agg #[.int .i64 b1, .int .i64 b2, .int .i64 b3]] W fun e' w' => e' = .returned (.int .i64 z) ∧ Below W.heap.size W w') : Calls Try.prog 25 #[.pointer (some ⟨bn, 0, none⟩), .pointer (some ⟨bw, 0, none⟩), .int .i64 i] y0 fun e' w' => e' = .returned (.tuple #[.int .i64 0, .bool false]) ∧ Below w.heap.size w w' := by
  have hi' : (i : Int) < nf := by omega
  have hi2 : (i : Int) < ns := by omega
  have hi3 : (i : Int) < nn := by omega
  have d0 : decide ((k : Int) < 0) = false := decide_eq_false (by omega)
  have d1 : decide (m ≤ (k : Int)) = false := decide_eq_false (by omega)
  have hk2 : (k : Int) < ns2 := by omega
  have hk3 : (k : Int) < nn2 := by omega
  have d2 : (s1 != s2) = false := by simpa using hs
  have d3 : decide (z < 57344) = true := decide_eq_true hz
  have HU0 := Lib.hid hU
  clear hU hsn hnn hm hs hn2 hz
  go_enter Try.func25, Try.ntmps25
  have c0_0 := cell_of_row _ _ 0 _ _ _ hr0_0
  have c0_1 := cell_of_row _ _ 1 _ _ _ hr0_0
  have c0_2 := cell_of_row _ _ 2 _ _ _ hr0_0
  have c0_3 := cell_of_row _ _ 3 _ _ _ hr0_0
  have c0_4 := cell_of_row _ _ 4 _ _ _ hr0_0
  have c0_5 := cell_of_row _ _ 5 _ _ _ hr0_0
  have c0_6 := cell_of_row _ _ 6 _ _ _ hr0_0
  have c0_7 := cell_of_row _ _ 7 _ _ _ hr0_0
  have c1_0 := cell_of_row _ _ 0 _ _ _ hr0_1
  have c1_1 := cell_of_row _ _ 1 _ _ _ hr0_1
  have c1_2 := cell_of_row _ _ 2 _ _ _ hr0_1
  have c1_3 := cell_of_row _ _ 3 _ _ _ hr0_1
  have c1_4 := cell_of_row _ _ 4 _ _ _ hr0_1
  have c1_5 := cell_of_row _ _ 5 _ _ _ hr0_1
  have c1_6 := cell_of_row _ _ 6 _ _ _ hr0_1
  have c1_7 := cell_of_row _ _ 7 _ _ _ hr0_1
  simp at c0_0 c0_1 c0_2 c0_3 c0_4 c0_5 c0_6 c0_7 c1_0 c1_1 c1_2 c1_3 c1_4 c1_5 c1_6 c1_7
  go_upto_region 2 with fail
  clear c0_0 c0_1 c0_2 c0_3 c0_4 c0_5 c0_6 c0_7 c1_0 c1_1 c1_2 c1_3 c1_4 c1_5 c1_6 c1_7
  refine wp_region_held_drew (S := fun y => y.heap[bn]? = some (.cells #[.int .i64 W, .int .i64 H, .slice al nl cl, .slice ad nd cd, .slice (some ⟨vb, vo, none⟩) nn cn, .slice ab nb cb, .slice (some ⟨xb, xo, none⟩) ns cx, .slice (some ⟨fb, fo, none⟩) nf cf] 40 (0, 0)) ∧ y.heap[bw]? = some (.cells #[.int .i64 W2, .int .i64 H2, .slice al2 nl2 cl2, .slice ad2 nd2 cd2, .slice (some ⟨vb2, vo2, none⟩) nn2 cn2, .slice ab2 nb2 cb2, .slice (some ⟨xb2, xo2, none⟩) ns2 cx2, .slice af2 nf2 cf2] 40 (0, 0)) ∧ y.cell? ⟨xb, xo + i, none⟩ = some (.int .i64 s1) ∧ y.cell? ⟨xb2, xo2 + k, none⟩ = some (.int .i64 s2) ∧ y.cell? ⟨vb, vo + i * 3, none⟩ = some (.int .i64 a1) ∧ y.cell? ⟨vb, vo + i * 3 + 1, none⟩ = some (.int .i64 a2) ∧ y.cell? ⟨vb, vo + i * 3 + 2, none⟩ = some (.int .i64 a3) ∧ y.cell? ⟨vb2, vo2 + k * 3, none⟩ = some (.int .i64 b1) ∧ y.cell? ⟨vb2, vo2 + k * 3 + 1, none⟩ = some (.int .i64 b2) ∧ y.cell? ⟨vb2, vo2 + k * 3 + 2, none⟩ = some (.int .i64 b3)) (by kernel_rfl) (⟨hr0_0, hr0_1, eS, eS2, ea1, ea2, ea3, eb1, eb2, eb3⟩) (fun hS0 => ?_)
  obtain ⟨y1, hy1⟩ : ∃ y, y0.drew = y := ⟨_, rfl⟩
  have HU1 := Lib.hid (show Below w.heap.size w y1 by rw [← hy1]; exact HU0.out.drew)
  have hr1_0 : y1.heap[bn]? = some (.cells #[.int .i64 W, .int .i64 H, .slice al nl cl, .slice ad nd cd, .slice (some ⟨vb, vo, none⟩) nn cn, .slice ab nb cb, .slice (some ⟨xb, xo, none⟩) ns cx, .slice (some ⟨fb, fo, none⟩) nf cf] 40 (0, 0)) := by rw [← hy1]; exact hr0_0
  have hr1_1 : y1.heap[bw]? = some (.cells #[.int .i64 W2, .int .i64 H2, .slice al2 nl2 cl2, .slice ad2 nd2 cd2, .slice (some ⟨vb2, vo2, none⟩) nn2 cn2, .slice ab2 nb2 cb2, .slice (some ⟨xb2, xo2, none⟩) ns2 cx2, .slice af2 nf2 cf2] 40 (0, 0)) := by rw [← hy1]; exact hr0_1
  rw [hy1] at hS0 ⊢
  clear hy1
  refine wpAnyH_take (i := 0) (v := ?_) rfl (by kernel_rfl) (by kernel_rfl) (by kernel_rfl) (fun _ _ _ h => h) (Or.inl ⟨by kernel_rfl, by (intro wz hSz; go_simp; try with_reducible rfl)⟩) hS0 ?_
  go_simp
  refine wpAnyH_take (i := 1) (v := ?_) rfl (by kernel_rfl) (by kernel_rfl) (by kernel_rfl) (fun _ _ _ h => h) (Or.inl ⟨by kernel_rfl, by (intro wz hSz; go_simp; try with_reducible rfl)⟩) hS0 ?_
  go_simp
  refine wpAnyH_take (i := 2) (v := ?_) rfl (by kernel_rfl) (by kernel_rfl) (by kernel_rfl) (fun _ _ _ h => h) (Or.inl ⟨by kernel_rfl, by (intro wz hSz; go_simp; try with_reducible rfl)⟩) hS0 ?_
  go_simp
  refine wpAnyH_take (i := 3) (v := ?_) rfl (by kernel_rfl) (by kernel_rfl) (by kernel_rfl) (fun _ _ _ h => h) (Or.inl ⟨by kernel_rfl, by (intro wz hSz; go_simp; try with_reducible rfl)⟩) hS0 ?_
  go_simp
  refine wpAnyH_take (i := 4) (v := ?_) rfl (by kernel_rfl) (by kernel_rfl) (by kernel_rfl) (fun _ _ _ h => h) (Or.inl ⟨by kernel_rfl, by (intro wz hSz; go_simp; try with_reducible rfl)⟩) hS0 ?_
  go_simp
  refine wpAnyH_take (i := 5) (v := ?_) rfl (by kernel_rfl) (by kernel_rfl) (by kernel_rfl) (fun _ _ _ h => h) (Or.inl ⟨by kernel_rfl, by (intro wz hSz; go_simp; try with_reducible rfl)⟩) hS0 ?_
  go_simp
  refine wpAnyH_take (i := 6) (v := ?_) rfl (by kernel_rfl) (by kernel_rfl) (by kernel_rfl) (fun _ _ _ h => h) (Or.inl ⟨by kernel_rfl, by (intro wz hSz; go_simp; try with_reducible rfl)⟩) hS0 ?_
  go_simp
  refine wpAnyH_take (i := 7) (v := ?_) rfl (by kernel_rfl) (by kernel_rfl) (by kernel_rfl) (fun _ _ _ h => h) (Or.inl ⟨by kernel_rfl, by (intro wz hSz; go_simp; try with_reducible rfl)⟩) hS0 ?_
  go_simp
  refine wpAnyH_take (i := 8) (v := ?_) rfl (by kernel_rfl) (by kernel_rfl) (by kernel_rfl) (fun _ _ _ h => h) (Or.inl ⟨by kernel_rfl, by (intro wz hSz; have c0_0 := cell_of_row _ _ 0 _ _ _ hSz.1; have c0_1 := cell_of_row _ _ 1 _ _ _ hSz.1; have c0_2 := cell_of_row _ _ 2 _ _ _ hSz.1; have c0_3 := cell_of_row _ _ 3 _ _ _ hSz.1; have c0_4 := cell_of_row _ _ 4 _ _ _ hSz.1; have c0_5 := cell_of_row _ _ 5 _ _ _ hSz.1; have c0_6 := cell_of_row _ _ 6 _ _ _ hSz.1; have c0_7 := cell_of_row _ _ 7 _ _ _ hSz.1; have c1_0 := cell_of_row _ _ 0 _ _ _ hSz.2.1; have c1_1 := cell_of_row _ _ 1 _ _ _ hSz.2.1; have c1_2 := cell_of_row _ _ 2 _ _ _ hSz.2.1; have c1_3 := cell_of_row _ _ 3 _ _ _ hSz.2.1; have c1_4 := cell_of_row _ _ 4 _ _ _ hSz.2.1; have c1_5 := cell_of_row _ _ 5 _ _ _ hSz.2.1; have c1_6 := cell_of_row _ _ 6 _ _ _ hSz.2.1; have c1_7 := cell_of_row _ _ 7 _ _ _ hSz.2.1; simp at c0_0 c0_1 c0_2 c0_3 c0_4 c0_5 c0_6 c0_7 c1_0 c1_1 c1_2 c1_3 c1_4 c1_5 c1_6 c1_7; have eSz := hSz.2.2.1; have eS2z := hSz.2.2.2.1; have ea1z := hSz.2.2.2.2.1; have ea2z := hSz.2.2.2.2.2.1; have ea3z := hSz.2.2.2.2.2.2.1; have eb1z := hSz.2.2.2.2.2.2.2.1; have eb2z := hSz.2.2.2.2.2.2.2.2.1; have eb3z := hSz.2.2.2.2.2.2.2.2.2; go_simp; try with_reducible rfl)⟩) hS0 ?_
  go_simp
  refine wpAnyH_ready (rs := [9]) (by kernel_rfl) (by simp) ?_
  refine AllReadyH.cons rfl (fun K hK => ?_) AllReadyH.nil
  go_simp
  go_wp2_with (go_at_call 31; refine (hP _).mono ?_; rintro e y2 ⟨rfl, hb2⟩)
  have hr2_0 := (hb2.block _ (lt_heap hr1_0)).trans hr1_0
  have hr2_1 := (hb2.block _ (lt_heap hr1_1)).trans hr1_1
  have HU2 := Lib.hid (HU1.out.trans (hb2.mono HU1.out.size))
  refine hK.out _ _ (⟨(hb2.block _ (lt_heap hS0.1)).trans hS0.1, (hb2.block _ (lt_heap hS0.2.1)).trans hS0.2.1, (hb2.cell (p := ⟨xb, xo + i, none⟩) (World.block_lt_of_cell? _ _ (hS0.2.2.1))).trans hS0.2.2.1, (hb2.cell (p := ⟨xb2, xo2 + k, none⟩) (World.block_lt_of_cell? _ _ (hS0.2.2.2.1))).trans hS0.2.2.2.1, (hb2.cell (p := ⟨vb, vo + i * 3, none⟩) (World.block_lt_of_cell? _ _ (hS0.2.2.2.2.1))).trans hS0.2.2.2.2.1, (hb2.cell (p := ⟨vb, vo + i * 3 + 1, none⟩) (World.block_lt_of_cell? _ _ (hS0.2.2.2.2.2.1))).trans hS0.2.2.2.2.2.1, (hb2.cell (p := ⟨vb, vo + i * 3 + 2, none⟩) (World.block_lt_of_cell? _ _ (hS0.2.2.2.2.2.2.1))).trans hS0.2.2.2.2.2.2.1, (hb2.cell (p := ⟨vb2, vo2 + k * 3, none⟩) (World.block_lt_of_cell? _ _ (hS0.2.2.2.2.2.2.2.1))).trans hS0.2.2.2.2.2.2.2.1, (hb2.cell (p := ⟨vb2, vo2 + k * 3 + 1, none⟩) (World.block_lt_of_cell? _ _ (hS0.2.2.2.2.2.2.2.2.1))).trans hS0.2.2.2.2.2.2.2.2.1, (hb2.cell (p := ⟨vb2, vo2 + k * 3 + 2, none⟩) (World.block_lt_of_cell? _ _ (hS0.2.2.2.2.2.2.2.2.2))).trans hS0.2.2.2.2.2.2.2.2.2⟩) (fun hS2c => ?_)
  clear hK K
  refine wpAnyH_take (i := 10) (v := ?_) rfl (by kernel_rfl) (by kernel_rfl) (by kernel_rfl) (fun _ _ _ h => h) (Or.inl ⟨by kernel_rfl, by (intro wz hSz; go_simp; try with_reducible rfl)⟩) hS2c ?_
  go_simp
  refine wpAnyH_take (i := 11) (v := ?_) rfl (by kernel_rfl) (by kernel_rfl) (by kernel_rfl) (fun _ _ _ h => h) (Or.inl ⟨by kernel_rfl, by (intro wz hSz; go_simp; try with_reducible rfl)⟩) hS2c ?_
  go_simp
  refine wpAnyH_take (i := 12) (v := ?_) rfl (by kernel_rfl) (by kernel_rfl) (by kernel_rfl) (fun _ _ _ h => h) (Or.inl ⟨by kernel_rfl, by (intro wz hSz; go_simp; try with_reducible rfl)⟩) hS2c ?_
  go_simp
  refine wpAnyH_take (i := 13) (v := ?_) rfl (by kernel_rfl) (by kernel_rfl) (by kernel_rfl) (fun _ _ _ h => h) (Or.inl ⟨by kernel_rfl, by (intro wz hSz; go_simp; try with_reducible rfl)⟩) hS2c ?_
  go_simp
  refine wpAnyH_take (i := 14) (v := ?_) rfl (by kernel_rfl) (by kernel_rfl) (by kernel_rfl) (fun _ _ _ h => h) (Or.inl ⟨by kernel_rfl, by (intro wz hSz; go_simp; try with_reducible rfl)⟩) hS2c ?_
  go_simp
  refine wpAnyH_take (i := 15) (v := ?_) rfl (by kernel_rfl) (by kernel_rfl) (by kernel_rfl) (fun _ _ _ h => h) (Or.inl ⟨by kernel_rfl, by (intro wz hSz; go_simp; try with_reducible rfl)⟩) hS2c ?_
  go_simp
  refine wpAnyH_take (i := 16) (v := ?_) rfl (by kernel_rfl) (by kernel_rfl) (by kernel_rfl) (fun _ _ _ h => h) (Or.inl ⟨by kernel_rfl, by (intro wz hSz; have c0_0 := cell_of_row _ _ 0 _ _ _ hSz.1; have c0_1 := cell_of_row _ _ 1 _ _ _ hSz.1; have c0_2 := cell_of_row _ _ 2 _ _ _ hSz.1; have c0_3 := cell_of_row _ _ 3 _ _ _ hSz.1; have c0_4 := cell_of_row _ _ 4 _ _ _ hSz.1; have c0_5 := cell_of_row _ _ 5 _ _ _ hSz.1; have c0_6 := cell_of_row _ _ 6 _ _ _ hSz.1; have c0_7 := cell_of_row _ _ 7 _ _ _ hSz.1; have c1_0 := cell_of_row _ _ 0 _ _ _ hSz.2.1; have c1_1 := cell_of_row _ _ 1 _ _ _ hSz.2.1; have c1_2 := cell_of_row _ _ 2 _ _ _ hSz.2.1; have c1_3 := cell_of_row _ _ 3 _ _ _ hSz.2.1; have c1_4 := cell_of_row _ _ 4 _ _ _ hSz.2.1; have c1_5 := cell_of_row _ _ 5 _ _ _ hSz.2.1; have c1_6 := cell_of_row _ _ 6 _ _ _ hSz.2.1; have c1_7 := cell_of_row _ _ 7 _ _ _ hSz.2.1; simp at c0_0 c0_1 c0_2 c0_3 c0_4 c0_5 c0_6 c0_7 c1_0 c1_1 c1_2 c1_3 c1_4 c1_5 c1_6 c1_7; have eSz := hSz.2.2.1; have eS2z := hSz.2.2.2.1; have ea1z := hSz.2.2.2.2.1; have ea2z := hSz.2.2.2.2.2.1; have ea3z := hSz.2.2.2.2.2.2.1; have eb1z := hSz.2.2.2.2.2.2.2.1; have eb2z := hSz.2.2.2.2.2.2.2.2.1; have eb3z := hSz.2.2.2.2.2.2.2.2.2; go_simp; try with_reducible rfl)⟩) hS2c ?_
  go_simp
  refine wpAnyH_take (i := 17) (v := ?_) rfl (by kernel_rfl) (by kernel_rfl) (by kernel_rfl) (fun _ _ _ h => h) (Or.inl ⟨by kernel_rfl, by (intro wz hSz; go_simp; try with_reducible rfl)⟩) hS2c ?_
  go_simp
  refine wpAnyH_take (i := 18) (v := ?_) rfl (by kernel_rfl) (by kernel_rfl) (by kernel_rfl) (fun _ _ _ h => h) (Or.inl ⟨by kernel_rfl, by (intro wz hSz; go_simp; try with_reducible rfl)⟩) hS2c ?_
  go_simp
  refine wpAnyH_take (i := 19) (v := ?_) rfl (by kernel_rfl) (by kernel_rfl) (by kernel_rfl) (fun _ _ _ h => h) (Or.inl ⟨by kernel_rfl, by (intro wz hSz; have c0_0 := cell_of_row _ _ 0 _ _ _ hSz.1; have c0_1 := cell_of_row _ _ 1 _ _ _ hSz.1; have c0_2 := cell_of_row _ _ 2 _ _ _ hSz.1; have c0_3 := cell_of_row _ _ 3 _ _ _ hSz.1; have c0_4 := cell_of_row _ _ 4 _ _ _ hSz.1; have c0_5 := cell_of_row _ _ 5 _ _ _ hSz.1; have c0_6 := cell_of_row _ _ 6 _ _ _ hSz.1; have c0_7 := cell_of_row _ _ 7 _ _ _ hSz.1; have c1_0 := cell_of_row _ _ 0 _ _ _ hSz.2.1; have c1_1 := cell_of_row _ _ 1 _ _ _ hSz.2.1; have c1_2 := cell_of_row _ _ 2 _ _ _ hSz.2.1; have c1_3 := cell_of_row _ _ 3 _ _ _ hSz.2.1; have c1_4 := cell_of_row _ _ 4 _ _ _ hSz.2.1; have c1_5 := cell_of_row _ _ 5 _ _ _ hSz.2.1; have c1_6 := cell_of_row _ _ 6 _ _ _ hSz.2.1; have c1_7 := cell_of_row _ _ 7 _ _ _ hSz.2.1; simp at c0_0 c0_1 c0_2 c0_3 c0_4 c0_5 c0_6 c0_7 c1_0 c1_1 c1_2 c1_3 c1_4 c1_5 c1_6 c1_7; have eSz := hSz.2.2.1; have eS2z := hSz.2.2.2.1; have ea1z := hSz.2.2.2.2.1; have ea2z := hSz.2.2.2.2.2.1; have ea3z := hSz.2.2.2.2.2.2.1; have eb1z := hSz.2.2.2.2.2.2.2.1; have eb2z := hSz.2.2.2.2.2.2.2.2.1; have eb3z := hSz.2.2.2.2.2.2.2.2.2; go_simp; try with_reducible rfl)⟩) hS2c ?_
  go_simp
  refine wpAnyH_take (i := 20) (v := ?_) rfl (by kernel_rfl) (by kernel_rfl) (by kernel_rfl) (fun _ _ _ h => h) (Or.inl ⟨by kernel_rfl, by (intro wz hSz; go_simp; try with_reducible rfl)⟩) hS2c ?_
  go_simp
  refine wpAnyH_take (i := 21) (v := ?_) rfl (by kernel_rfl) (by kernel_rfl) (by kernel_rfl) (fun _ _ _ h => h) (Or.inl ⟨by kernel_rfl, by (intro wz hSz; go_simp; try with_reducible rfl)⟩) hS2c ?_
  go_simp
  refine wpAnyH_take (i := 22) (v := ?_) rfl (by kernel_rfl) (by kernel_rfl) (by kernel_rfl) (fun _ _ _ h => h) (Or.inl ⟨by kernel_rfl, by (intro wz hSz; go_simp; try with_reducible rfl)⟩) hS2c ?_
  go_simp
  refine wpAnyH_take (i := 23) (v := ?_) rfl (by kernel_rfl) (by kernel_rfl) (by kernel_rfl) (fun _ _ _ h => h) (Or.inl ⟨by kernel_rfl, by (intro wz hSz; have c0_0 := cell_of_row _ _ 0 _ _ _ hSz.1; have c0_1 := cell_of_row _ _ 1 _ _ _ hSz.1; have c0_2 := cell_of_row _ _ 2 _ _ _ hSz.1; have c0_3 := cell_of_row _ _ 3 _ _ _ hSz.1; have c0_4 := cell_of_row _ _ 4 _ _ _ hSz.1; have c0_5 := cell_of_row _ _ 5 _ _ _ hSz.1; have c0_6 := cell_of_row _ _ 6 _ _ _ hSz.1; have c0_7 := cell_of_row _ _ 7 _ _ _ hSz.1; have c1_0 := cell_of_row _ _ 0 _ _ _ hSz.2.1; have c1_1 := cell_of_row _ _ 1 _ _ _ hSz.2.1; have c1_2 := cell_of_row _ _ 2 _ _ _ hSz.2.1; have c1_3 := cell_of_row _ _ 3 _ _ _ hSz.2.1; have c1_4 := cell_of_row _ _ 4 _ _ _ hSz.2.1; have c1_5 := cell_of_row _ _ 5 _ _ _ hSz.2.1; have c1_6 := cell_of_row _ _ 6 _ _ _ hSz.2.1; have c1_7 := cell_of_row _ _ 7 _ _ _ hSz.2.1; simp at c0_0 c0_1 c0_2 c0_3 c0_4 c0_5 c0_6 c0_7 c1_0 c1_1 c1_2 c1_3 c1_4 c1_5 c1_6 c1_7; have eSz := hSz.2.2.1; have eS2z := hSz.2.2.2.1; have ea1z := hSz.2.2.2.2.1; have ea2z := hSz.2.2.2.2.2.1; have ea3z := hSz.2.2.2.2.2.2.1; have eb1z := hSz.2.2.2.2.2.2.2.1; have eb2z := hSz.2.2.2.2.2.2.2.2.1; have eb3z := hSz.2.2.2.2.2.2.2.2.2; go_simp; try with_reducible rfl)⟩) hS2c ?_
  go_simp
  refine wpAnyH_take (i := 24) (v := ?_) rfl (by kernel_rfl) (by kernel_rfl) (by kernel_rfl) (fun _ _ _ h => h) (Or.inl ⟨by kernel_rfl, by (intro wz hSz; go_simp; try with_reducible rfl)⟩) hS2c ?_
  go_simp
  refine wpAnyH_take (i := 25) (v := ?_) rfl (by kernel_rfl) (by kernel_rfl) (by kernel_rfl) (fun _ _ _ h => h) (Or.inl ⟨by kernel_rfl, by (intro wz hSz; go_simp; try with_reducible rfl)⟩) hS2c ?_
  go_simp
  refine wpAnyH_take (i := 26) (v := ?_) rfl (by kernel_rfl) (by kernel_rfl) (by kernel_rfl) (fun _ _ _ h => h) (Or.inl ⟨by kernel_rfl, by (intro wz hSz; have c0_0 := cell_of_row _ _ 0 _ _ _ hSz.1; have c0_1 := cell_of_row _ _ 1 _ _ _ hSz.1; have c0_2 := cell_of_row _ _ 2 _ _ _ hSz.1; have c0_3 := cell_of_row _ _ 3 _ _ _ hSz.1; have c0_4 := cell_of_row _ _ 4 _ _ _ hSz.1; have c0_5 := cell_of_row _ _ 5 _ _ _ hSz.1; have c0_6 := cell_of_row _ _ 6 _ _ _ hSz.1; have c0_7 := cell_of_row _ _ 7 _ _ _ hSz.1; have c1_0 := cell_of_row _ _ 0 _ _ _ hSz.2.1; have c1_1 := cell_of_row _ _ 1 _ _ _ hSz.2.1; have c1_2 := cell_of_row _ _ 2 _ _ _ hSz.2.1; have c1_3 := cell_of_row _ _ 3 _ _ _ hSz.2.1; have c1_4 := cell_of_row _ _ 4 _ _ _ hSz.2.1; have c1_5 := cell_of_row _ _ 5 _ _ _ hSz.2.1; have c1_6 := cell_of_row _ _ 6 _ _ _ hSz.2.1; have c1_7 := cell_of_row _ _ 7 _ _ _ hSz.2.1; simp at c0_0 c0_1 c0_2 c0_3 c0_4 c0_5 c0_6 c0_7 c1_0 c1_1 c1_2 c1_3 c1_4 c1_5 c1_6 c1_7; have eSz := hSz.2.2.1; have eS2z := hSz.2.2.2.1; have ea1z := hSz.2.2.2.2.1; have ea2z := hSz.2.2.2.2.2.1; have ea3z := hSz.2.2.2.2.2.2.1; have eb1z := hSz.2.2.2.2.2.2.2.1; have eb2z := hSz.2.2.2.2.2.2.2.2.1; have eb3z := hSz.2.2.2.2.2.2.2.2.2; go_simp; try with_reducible rfl)⟩) hS2c ?_
  go_simp
  refine wpAnyH_take (i := 27) (v := ?_) rfl (by kernel_rfl) (by kernel_rfl) (by kernel_rfl) (fun _ _ _ h => h) (Or.inl ⟨by kernel_rfl, by (intro wz hSz; go_simp; try with_reducible rfl)⟩) hS2c ?_
  go_simp
  refine wpAnyH_take (i := 28) (v := ?_) rfl (by kernel_rfl) (by kernel_rfl) (by kernel_rfl) (fun _ _ _ h => h) (Or.inl ⟨by kernel_rfl, by (intro wz hSz; go_simp; try with_reducible rfl)⟩) hS2c ?_
  go_simp
  refine wpAnyH_take (i := 29) (v := ?_) rfl (by kernel_rfl) (by kernel_rfl) (by kernel_rfl) (fun _ _ _ h => h) (Or.inl ⟨by kernel_rfl, by (intro wz hSz; go_simp; try with_reducible rfl)⟩) hS2c ?_
  go_simp
  refine wpAnyH_take (i := 30) (v := ?_) rfl (by kernel_rfl) (by kernel_rfl) (by kernel_rfl) (fun _ _ _ h => h) (Or.inl ⟨by kernel_rfl, by (intro wz hSz; go_simp; try with_reducible rfl)⟩) hS2c ?_
  go_simp
  refine wpAnyH_take (i := 31) (v := ?_) rfl (by kernel_rfl) (by kernel_rfl) (by kernel_rfl) (fun _ _ _ h => h) (Or.inl ⟨by kernel_rfl, by (intro wz hSz; go_simp; try with_reducible rfl)⟩) hS2c ?_
  go_simp
  refine wpAnyH_take (i := 32) (v := ?_) rfl (by kernel_rfl) (by kernel_rfl) (by kernel_rfl) (fun _ _ _ h => h) (Or.inl ⟨by kernel_rfl, by (intro wz hSz; go_simp; try with_reducible rfl)⟩) hS2c ?_
  go_simp
  refine wpAnyH_take (i := 33) (v := ?_) rfl (by kernel_rfl) (by kernel_rfl) (by kernel_rfl) (fun _ _ _ h => h) (Or.inl ⟨by kernel_rfl, by (intro wz hSz; have c0_0 := cell_of_row _ _ 0 _ _ _ hSz.1; have c0_1 := cell_of_row _ _ 1 _ _ _ hSz.1; have c0_2 := cell_of_row _ _ 2 _ _ _ hSz.1; have c0_3 := cell_of_row _ _ 3 _ _ _ hSz.1; have c0_4 := cell_of_row _ _ 4 _ _ _ hSz.1; have c0_5 := cell_of_row _ _ 5 _ _ _ hSz.1; have c0_6 := cell_of_row _ _ 6 _ _ _ hSz.1; have c0_7 := cell_of_row _ _ 7 _ _ _ hSz.1; have c1_0 := cell_of_row _ _ 0 _ _ _ hSz.2.1; have c1_1 := cell_of_row _ _ 1 _ _ _ hSz.2.1; have c1_2 := cell_of_row _ _ 2 _ _ _ hSz.2.1; have c1_3 := cell_of_row _ _ 3 _ _ _ hSz.2.1; have c1_4 := cell_of_row _ _ 4 _ _ _ hSz.2.1; have c1_5 := cell_of_row _ _ 5 _ _ _ hSz.2.1; have c1_6 := cell_of_row _ _ 6 _ _ _ hSz.2.1; have c1_7 := cell_of_row _ _ 7 _ _ _ hSz.2.1; simp at c0_0 c0_1 c0_2 c0_3 c0_4 c0_5 c0_6 c0_7 c1_0 c1_1 c1_2 c1_3 c1_4 c1_5 c1_6 c1_7; have eSz := hSz.2.2.1; have eS2z := hSz.2.2.2.1; have ea1z := hSz.2.2.2.2.1; have ea2z := hSz.2.2.2.2.2.1; have ea3z := hSz.2.2.2.2.2.2.1; have eb1z := hSz.2.2.2.2.2.2.2.1; have eb2z := hSz.2.2.2.2.2.2.2.2.1; have eb3z := hSz.2.2.2.2.2.2.2.2.2; go_simp; try with_reducible rfl)⟩) hS2c ?_
  go_simp
  refine wpAnyH_take (i := 34) (v := ?_) rfl (by kernel_rfl) (by kernel_rfl) (by kernel_rfl) (fun _ _ _ h => h) (Or.inl ⟨by kernel_rfl, by (intro wz hSz; go_simp; try with_reducible rfl)⟩) hS2c ?_
  go_simp
  refine wpAnyH_take (i := 35) (v := ?_) rfl (by kernel_rfl) (by kernel_rfl) (by kernel_rfl) (fun _ _ _ h => h) (Or.inl ⟨by kernel_rfl, by (intro wz hSz; go_simp; try with_reducible rfl)⟩) hS2c ?_
  go_simp
  refine wpAnyH_take (i := 36) (v := ?_) rfl (by kernel_rfl) (by kernel_rfl) (by kernel_rfl) (fun _ _ _ h => h) (Or.inl ⟨by kernel_rfl, by (intro wz hSz; have c0_0 := cell_of_row _ _ 0 _ _ _ hSz.1; have c0_1 := cell_of_row _ _ 1 _ _ _ hSz.1; have c0_2 := cell_of_row _ _ 2 _ _ _ hSz.1; have c0_3 := cell_of_row _ _ 3 _ _ _ hSz.1; have c0_4 := cell_of_row _ _ 4 _ _ _ hSz.1; have c0_5 := cell_of_row _ _ 5 _ _ _ hSz.1; have c0_6 := cell_of_row _ _ 6 _ _ _ hSz.1; have c0_7 := cell_of_row _ _ 7 _ _ _ hSz.1; have c1_0 := cell_of_row _ _ 0 _ _ _ hSz.2.1; have c1_1 := cell_of_row _ _ 1 _ _ _ hSz.2.1; have c1_2 := cell_of_row _ _ 2 _ _ _ hSz.2.1; have c1_3 := cell_of_row _ _ 3 _ _ _ hSz.2.1; have c1_4 := cell_of_row _ _ 4 _ _ _ hSz.2.1; have c1_5 := cell_of_row _ _ 5 _ _ _ hSz.2.1; have c1_6 := cell_of_row _ _ 6 _ _ _ hSz.2.1; have c1_7 := cell_of_row _ _ 7 _ _ _ hSz.2.1; simp at c0_0 c0_1 c0_2 c0_3 c0_4 c0_5 c0_6 c0_7 c1_0 c1_1 c1_2 c1_3 c1_4 c1_5 c1_6 c1_7; have eSz := hSz.2.2.1; have eS2z := hSz.2.2.2.1; have ea1z := hSz.2.2.2.2.1; have ea2z := hSz.2.2.2.2.2.1; have ea3z := hSz.2.2.2.2.2.2.1; have eb1z := hSz.2.2.2.2.2.2.2.1; have eb2z := hSz.2.2.2.2.2.2.2.2.1; have eb3z := hSz.2.2.2.2.2.2.2.2.2; go_simp; try with_reducible rfl)⟩) hS2c ?_
  go_simp
  refine wpAnyH_take (i := 37) (v := ?_) rfl (by kernel_rfl) (by kernel_rfl) (by kernel_rfl) (fun _ _ _ h => h) (Or.inl ⟨by kernel_rfl, by (intro wz hSz; go_simp; try with_reducible rfl)⟩) hS2c ?_
  go_simp
  refine wpAnyH_take (i := 38) (v := ?_) rfl (by kernel_rfl) (by kernel_rfl) (by kernel_rfl) (fun _ _ _ h => h) (Or.inl ⟨by kernel_rfl, by (intro wz hSz; go_simp; try with_reducible rfl)⟩) hS2c ?_
  go_simp
  refine wpAnyH_take (i := 39) (v := ?_) rfl (by kernel_rfl) (by kernel_rfl) (by kernel_rfl) (fun _ _ _ h => h) (Or.inl ⟨by kernel_rfl, by (intro wz hSz; go_simp; try with_reducible rfl)⟩) hS2c ?_
  go_simp
  refine wpAnyH_take (i := 40) (v := ?_) rfl (by kernel_rfl) (by kernel_rfl) (by kernel_rfl) (fun _ _ _ h => h) (Or.inl ⟨by kernel_rfl, by (intro wz hSz; have c0_0 := cell_of_row _ _ 0 _ _ _ hSz.1; have c0_1 := cell_of_row _ _ 1 _ _ _ hSz.1; have c0_2 := cell_of_row _ _ 2 _ _ _ hSz.1; have c0_3 := cell_of_row _ _ 3 _ _ _ hSz.1; have c0_4 := cell_of_row _ _ 4 _ _ _ hSz.1; have c0_5 := cell_of_row _ _ 5 _ _ _ hSz.1; have c0_6 := cell_of_row _ _ 6 _ _ _ hSz.1; have c0_7 := cell_of_row _ _ 7 _ _ _ hSz.1; have c1_0 := cell_of_row _ _ 0 _ _ _ hSz.2.1; have c1_1 := cell_of_row _ _ 1 _ _ _ hSz.2.1; have c1_2 := cell_of_row _ _ 2 _ _ _ hSz.2.1; have c1_3 := cell_of_row _ _ 3 _ _ _ hSz.2.1; have c1_4 := cell_of_row _ _ 4 _ _ _ hSz.2.1; have c1_5 := cell_of_row _ _ 5 _ _ _ hSz.2.1; have c1_6 := cell_of_row _ _ 6 _ _ _ hSz.2.1; have c1_7 := cell_of_row _ _ 7 _ _ _ hSz.2.1; simp at c0_0 c0_1 c0_2 c0_3 c0_4 c0_5 c0_6 c0_7 c1_0 c1_1 c1_2 c1_3 c1_4 c1_5 c1_6 c1_7; have eSz := hSz.2.2.1; have eS2z := hSz.2.2.2.1; have ea1z := hSz.2.2.2.2.1; have ea2z := hSz.2.2.2.2.2.1; have ea3z := hSz.2.2.2.2.2.2.1; have eb1z := hSz.2.2.2.2.2.2.2.1; have eb2z := hSz.2.2.2.2.2.2.2.2.1; have eb3z := hSz.2.2.2.2.2.2.2.2.2; go_simp; try with_reducible rfl)⟩) hS2c ?_
  go_simp
  refine wpAnyH_take (i := 41) (v := ?_) rfl (by kernel_rfl) (by kernel_rfl) (by kernel_rfl) (fun _ _ _ h => h) (Or.inl ⟨by kernel_rfl, by (intro wz hSz; go_simp; try with_reducible rfl)⟩) hS2c ?_
  go_simp
  refine wpAnyH_take (i := 42) (v := ?_) rfl (by kernel_rfl) (by kernel_rfl) (by kernel_rfl) (fun _ _ _ h => h) (Or.inl ⟨by kernel_rfl, by (intro wz hSz; go_simp; try with_reducible rfl)⟩) hS2c ?_
  go_simp
  refine wpAnyH_take (i := 43) (v := ?_) rfl (by kernel_rfl) (by kernel_rfl) (by kernel_rfl) (fun _ _ _ h => h) (Or.inl ⟨by kernel_rfl, by (intro wz hSz; have c0_0 := cell_of_row _ _ 0 _ _ _ hSz.1; have c0_1 := cell_of_row _ _ 1 _ _ _ hSz.1; have c0_2 := cell_of_row _ _ 2 _ _ _ hSz.1; have c0_3 := cell_of_row _ _ 3 _ _ _ hSz.1; have c0_4 := cell_of_row _ _ 4 _ _ _ hSz.1; have c0_5 := cell_of_row _ _ 5 _ _ _ hSz.1; have c0_6 := cell_of_row _ _ 6 _ _ _ hSz.1; have c0_7 := cell_of_row _ _ 7 _ _ _ hSz.1; have c1_0 := cell_of_row _ _ 0 _ _ _ hSz.2.1; have c1_1 := cell_of_row _ _ 1 _ _ _ hSz.2.1; have c1_2 := cell_of_row _ _ 2 _ _ _ hSz.2.1; have c1_3 := cell_of_row _ _ 3 _ _ _ hSz.2.1; have c1_4 := cell_of_row _ _ 4 _ _ _ hSz.2.1; have c1_5 := cell_of_row _ _ 5 _ _ _ hSz.2.1; have c1_6 := cell_of_row _ _ 6 _ _ _ hSz.2.1; have c1_7 := cell_of_row _ _ 7 _ _ _ hSz.2.1; simp at c0_0 c0_1 c0_2 c0_3 c0_4 c0_5 c0_6 c0_7 c1_0 c1_1 c1_2 c1_3 c1_4 c1_5 c1_6 c1_7; have eSz := hSz.2.2.1; have eS2z := hSz.2.2.2.1; have ea1z := hSz.2.2.2.2.1; have ea2z := hSz.2.2.2.2.2.1; have ea3z := hSz.2.2.2.2.2.2.1; have eb1z := hSz.2.2.2.2.2.2.2.1; have eb2z := hSz.2.2.2.2.2.2.2.2.1; have eb3z := hSz.2.2.2.2.2.2.2.2.2; go_simp; try with_reducible rfl)⟩) hS2c ?_
  go_simp
  refine wpAnyH_ready (rs := [44]) (by kernel_rfl) (by simp) ?_
  refine AllReadyH.cons rfl (fun K hK => ?_) AllReadyH.nil
  go_simp
  go_wp2_with (go_at_call 35; refine (hT _).mono ?_; rintro e y3 ⟨rfl, hb3⟩)
  have hr3_0 := (hb3.block _ (lt_heap hr2_0)).trans hr2_0
  have hr3_1 := (hb3.block _ (lt_heap hr2_1)).trans hr2_1
  have HU3 := Lib.hid (HU2.out.trans (hb3.mono HU2.out.size))
  refine hK.out _ _ (⟨(hb3.block _ (lt_heap hS2c.1)).trans hS2c.1, (hb3.block _ (lt_heap hS2c.2.1)).trans hS2c.2.1, (hb3.cell (p := ⟨xb, xo + i, none⟩) (World.block_lt_of_cell? _ _ (hS2c.2.2.1))).trans hS2c.2.2.1, (hb3.cell (p := ⟨xb2, xo2 + k, none⟩) (World.block_lt_of_cell? _ _ (hS2c.2.2.2.1))).trans hS2c.2.2.2.1, (hb3.cell (p := ⟨vb, vo + i * 3, none⟩) (World.block_lt_of_cell? _ _ (hS2c.2.2.2.2.1))).trans hS2c.2.2.2.2.1, (hb3.cell (p := ⟨vb, vo + i * 3 + 1, none⟩) (World.block_lt_of_cell? _ _ (hS2c.2.2.2.2.2.1))).trans hS2c.2.2.2.2.2.1, (hb3.cell (p := ⟨vb, vo + i * 3 + 2, none⟩) (World.block_lt_of_cell? _ _ (hS2c.2.2.2.2.2.2.1))).trans hS2c.2.2.2.2.2.2.1, (hb3.cell (p := ⟨vb2, vo2 + k * 3, none⟩) (World.block_lt_of_cell? _ _ (hS2c.2.2.2.2.2.2.2.1))).trans hS2c.2.2.2.2.2.2.2.1, (hb3.cell (p := ⟨vb2, vo2 + k * 3 + 1, none⟩) (World.block_lt_of_cell? _ _ (hS2c.2.2.2.2.2.2.2.2.1))).trans hS2c.2.2.2.2.2.2.2.2.1, (hb3.cell (p := ⟨vb2, vo2 + k * 3 + 2, none⟩) (World.block_lt_of_cell? _ _ (hS2c.2.2.2.2.2.2.2.2.2))).trans hS2c.2.2.2.2.2.2.2.2.2⟩) (fun hS3c => ?_)
  clear hK K
  refine wpAnyH_take (i := 45) (v := ?_) rfl (by kernel_rfl) (by kernel_rfl) (by kernel_rfl) (fun _ _ _ h => h) (Or.inl ⟨by kernel_rfl, by (intro wz hSz; go_simp; try with_reducible rfl)⟩) hS3c ?_
  go_simp
  refine wpAnyH_take (i := 46) (v := ?_) rfl (by kernel_rfl) (by kernel_rfl) (by kernel_rfl) (fun _ _ _ h => h) (Or.inl ⟨by kernel_rfl, by (intro wz hSz; go_simp; try with_reducible rfl)⟩) hS3c ?_
  go_simp
  refine wpAnyH_done (by kernel_rfl) ?_ _
  go_wp2
  exact bodyPost_ret (v := .tuple #[.int .i64 0, .bool false]) (by simp [results, Try.results25, go_sem]) rfl ⟨rfl, HU3.out⟩

set_option maxHeartbeats 4000000 in
set_option maxRecDepth 100000 in
theorem past_yes (W H W2 H2 : Int) (al ad ab al2 ad2 ab2 af2 : Option Addr) (fb fo xb xo xb2 xo2 vb vo vb2 vo2 cl cd cn cb cx cf nl nd nn nb ns nf cl2 cd2 cn2 cb2 cx2 cf2 nl2 nd2 nn2 nb2 ns2 nf2 : Nat) (w y0 : World) (hU : Below w.heap.size w y0) (bn bw : Nat) (hr0_0 : y0.heap[bn]? = some (.cells #[.int .i64 W, .int .i64 H, .slice al nl cl, .slice ad nd cd, .slice (some ⟨vb, vo, none⟩) nn cn, .slice ab nb cb, .slice (some ⟨xb, xo, none⟩) ns cx, .slice (some ⟨fb, fo, none⟩) nf cf] 40 (0, 0))) (hr0_1 : y0.heap[bw]? = some (.cells #[.int .i64 W2, .int .i64 H2, .slice al2 nl2 cl2, .slice ad2 nd2 cd2, .slice (some ⟨vb2, vo2, none⟩) nn2 cn2, .slice ab2 nb2 cb2, .slice (some ⟨xb2, xo2, none⟩) ns2 cx2, .slice af2 nf2 cf2] 40 (0, 0))) (i : Nat) (hi : i < nf) (hsn : ns = nf) (hnn : nn = nf) (k : Nat) (eF : y0.cell? ⟨fb, fo + i, none⟩ = some (.int .i64 (k : Int))) (hk : k < ns2) (hn2 : nn2 = ns2) (s1 s2 : Int) (eS : y0.cell? ⟨xb, xo + i, none⟩ = some (.int .i64 s1)) (eS2 : y0.cell? ⟨xb2, xo2 + k, none⟩ = some (.int .i64 s2)) (hs : s1 = s2) (a1 a2 a3 : Int) (ea1 : y0.cell? ⟨vb, vo + i * 3, none⟩ = some (.int .i64 a1)) (ea2 : y0.cell? ⟨vb, vo + i * 3 + 1, none⟩ = some (.int .i64 a2)) (ea3 : y0.cell? ⟨vb, vo + i * 3 + 2, none⟩ = some (.int .i64 a3)) (b1 b2 b3 : Int) (eb1 : y0.cell? ⟨vb2, vo2 + k * 3, none⟩ = some (.int .i64 b1)) (eb2 : y0.cell? ⟨vb2, vo2 + k * 3 + 1, none⟩ = some (.int .i64 b2)) (eb3 : y0.cell? ⟨vb2, vo2 + k * 3 + 2, none⟩ = some (.int .i64 b3)) (z : Int) (hz : ¬ z < 57344) (m : Int) (hm : m = ns2) (hP : ∀ W : World, Calls Try.prog 31 #[.agg #[.int .i64 W2, .int .i64 H2]] W fun e' w' => e' = .returned (.int .i64 m) ∧ Below W.heap.size W w') (hT : ∀ W : World, Calls Try.prog 35 #[.agg #[.int .i64 a1, .int .i64 a2, .int .i64 a3], .agg #[.int .i64 b1, .int .i64 b2, .int .i64 b3]] W fun e' w' => e' = .returned (.int .i64 z) ∧ Below W.heap.size W w') : Calls Try.prog 25 #[.pointer (some ⟨bn, 0, none⟩), .pointer (some ⟨bw, 0, none⟩), .int .i64 i] y0 fun e' w' => e' = .returned (.tuple #[.int .i64 k, .bool true]) ∧ Below w.heap.size w w' := by
  have hi' : (i : Int) < nf := by omega
  have hi2 : (i : Int) < ns := by omega
  have hi3 : (i : Int) < nn := by omega
  have d0 : decide ((k : Int) < 0) = false := decide_eq_false (by omega)
  have d1 : decide (m ≤ (k : Int)) = false := decide_eq_false (by omega)
  have hk2 : (k : Int) < ns2 := by omega
  have hk3 : (k : Int) < nn2 := by omega
  have d2 : (s1 != s2) = false := by simpa using hs
  have d3 : decide (z < 57344) = false := decide_eq_false hz
  have HU0 := Lib.hid hU
  clear hU hsn hnn hm hs hn2 hz
  go_enter Try.func25, Try.ntmps25
  have c0_0 := cell_of_row _ _ 0 _ _ _ hr0_0
  have c0_1 := cell_of_row _ _ 1 _ _ _ hr0_0
  have c0_2 := cell_of_row _ _ 2 _ _ _ hr0_0
  have c0_3 := cell_of_row _ _ 3 _ _ _ hr0_0
  have c0_4 := cell_of_row _ _ 4 _ _ _ hr0_0
  have c0_5 := cell_of_row _ _ 5 _ _ _ hr0_0
  have c0_6 := cell_of_row _ _ 6 _ _ _ hr0_0
  have c0_7 := cell_of_row _ _ 7 _ _ _ hr0_0
  have c1_0 := cell_of_row _ _ 0 _ _ _ hr0_1
  have c1_1 := cell_of_row _ _ 1 _ _ _ hr0_1
  have c1_2 := cell_of_row _ _ 2 _ _ _ hr0_1
  have c1_3 := cell_of_row _ _ 3 _ _ _ hr0_1
  have c1_4 := cell_of_row _ _ 4 _ _ _ hr0_1
  have c1_5 := cell_of_row _ _ 5 _ _ _ hr0_1
  have c1_6 := cell_of_row _ _ 6 _ _ _ hr0_1
  have c1_7 := cell_of_row _ _ 7 _ _ _ hr0_1
  simp at c0_0 c0_1 c0_2 c0_3 c0_4 c0_5 c0_6 c0_7 c1_0 c1_1 c1_2 c1_3 c1_4 c1_5 c1_6 c1_7
  go_upto_region 2 with fail
  clear c0_0 c0_1 c0_2 c0_3 c0_4 c0_5 c0_6 c0_7 c1_0 c1_1 c1_2 c1_3 c1_4 c1_5 c1_6 c1_7
  refine wp_region_held_drew (S := fun y => y.heap[bn]? = some (.cells #[.int .i64 W, .int .i64 H, .slice al nl cl, .slice ad nd cd, .slice (some ⟨vb, vo, none⟩) nn cn, .slice ab nb cb, .slice (some ⟨xb, xo, none⟩) ns cx, .slice (some ⟨fb, fo, none⟩) nf cf] 40 (0, 0)) ∧ y.heap[bw]? = some (.cells #[.int .i64 W2, .int .i64 H2, .slice al2 nl2 cl2, .slice ad2 nd2 cd2, .slice (some ⟨vb2, vo2, none⟩) nn2 cn2, .slice ab2 nb2 cb2, .slice (some ⟨xb2, xo2, none⟩) ns2 cx2, .slice af2 nf2 cf2] 40 (0, 0)) ∧ y.cell? ⟨xb, xo + i, none⟩ = some (.int .i64 s1) ∧ y.cell? ⟨xb2, xo2 + k, none⟩ = some (.int .i64 s2) ∧ y.cell? ⟨vb, vo + i * 3, none⟩ = some (.int .i64 a1) ∧ y.cell? ⟨vb, vo + i * 3 + 1, none⟩ = some (.int .i64 a2) ∧ y.cell? ⟨vb, vo + i * 3 + 2, none⟩ = some (.int .i64 a3) ∧ y.cell? ⟨vb2, vo2 + k * 3, none⟩ = some (.int .i64 b1) ∧ y.cell? ⟨vb2, vo2 + k * 3 + 1, none⟩ = some (.int .i64 b2) ∧ y.cell? ⟨vb2, vo2 + k * 3 + 2, none⟩ = some (.int .i64 b3)) (by kernel_rfl) (⟨hr0_0, hr0_1, eS, eS2, ea1, ea2, ea3, eb1, eb2, eb3⟩) (fun hS0 => ?_)
  obtain ⟨y1, hy1⟩ : ∃ y, y0.drew = y := ⟨_, rfl⟩
  have HU1 := Lib.hid (show Below w.heap.size w y1 by rw [← hy1]; exact HU0.out.drew)
  have hr1_0 : y1.heap[bn]? = some (.cells #[.int .i64 W, .int .i64 H, .slice al nl cl, .slice ad nd cd, .slice (some ⟨vb, vo, none⟩) nn cn, .slice ab nb cb, .slice (some ⟨xb, xo, none⟩) ns cx, .slice (some ⟨fb, fo, none⟩) nf cf] 40 (0, 0)) := by rw [← hy1]; exact hr0_0
  have hr1_1 : y1.heap[bw]? = some (.cells #[.int .i64 W2, .int .i64 H2, .slice al2 nl2 cl2, .slice ad2 nd2 cd2, .slice (some ⟨vb2, vo2, none⟩) nn2 cn2, .slice ab2 nb2 cb2, .slice (some ⟨xb2, xo2, none⟩) ns2 cx2, .slice af2 nf2 cf2] 40 (0, 0)) := by rw [← hy1]; exact hr0_1
  rw [hy1] at hS0 ⊢
  clear hy1
  refine wpAnyH_take (i := 0) (v := ?_) rfl (by kernel_rfl) (by kernel_rfl) (by kernel_rfl) (fun _ _ _ h => h) (Or.inl ⟨by kernel_rfl, by (intro wz hSz; go_simp; try with_reducible rfl)⟩) hS0 ?_
  go_simp
  refine wpAnyH_take (i := 1) (v := ?_) rfl (by kernel_rfl) (by kernel_rfl) (by kernel_rfl) (fun _ _ _ h => h) (Or.inl ⟨by kernel_rfl, by (intro wz hSz; go_simp; try with_reducible rfl)⟩) hS0 ?_
  go_simp
  refine wpAnyH_take (i := 2) (v := ?_) rfl (by kernel_rfl) (by kernel_rfl) (by kernel_rfl) (fun _ _ _ h => h) (Or.inl ⟨by kernel_rfl, by (intro wz hSz; go_simp; try with_reducible rfl)⟩) hS0 ?_
  go_simp
  refine wpAnyH_take (i := 3) (v := ?_) rfl (by kernel_rfl) (by kernel_rfl) (by kernel_rfl) (fun _ _ _ h => h) (Or.inl ⟨by kernel_rfl, by (intro wz hSz; go_simp; try with_reducible rfl)⟩) hS0 ?_
  go_simp
  refine wpAnyH_take (i := 4) (v := ?_) rfl (by kernel_rfl) (by kernel_rfl) (by kernel_rfl) (fun _ _ _ h => h) (Or.inl ⟨by kernel_rfl, by (intro wz hSz; go_simp; try with_reducible rfl)⟩) hS0 ?_
  go_simp
  refine wpAnyH_take (i := 5) (v := ?_) rfl (by kernel_rfl) (by kernel_rfl) (by kernel_rfl) (fun _ _ _ h => h) (Or.inl ⟨by kernel_rfl, by (intro wz hSz; go_simp; try with_reducible rfl)⟩) hS0 ?_
  go_simp
  refine wpAnyH_take (i := 6) (v := ?_) rfl (by kernel_rfl) (by kernel_rfl) (by kernel_rfl) (fun _ _ _ h => h) (Or.inl ⟨by kernel_rfl, by (intro wz hSz; go_simp; try with_reducible rfl)⟩) hS0 ?_
  go_simp
  refine wpAnyH_take (i := 7) (v := ?_) rfl (by kernel_rfl) (by kernel_rfl) (by kernel_rfl) (fun _ _ _ h => h) (Or.inl ⟨by kernel_rfl, by (intro wz hSz; go_simp; try with_reducible rfl)⟩) hS0 ?_
  go_simp
  refine wpAnyH_take (i := 8) (v := ?_) rfl (by kernel_rfl) (by kernel_rfl) (by kernel_rfl) (fun _ _ _ h => h) (Or.inl ⟨by kernel_rfl, by (intro wz hSz; have c0_0 := cell_of_row _ _ 0 _ _ _ hSz.1; have c0_1 := cell_of_row _ _ 1 _ _ _ hSz.1; have c0_2 := cell_of_row _ _ 2 _ _ _ hSz.1; have c0_3 := cell_of_row _ _ 3 _ _ _ hSz.1; have c0_4 := cell_of_row _ _ 4 _ _ _ hSz.1; have c0_5 := cell_of_row _ _ 5 _ _ _ hSz.1; have c0_6 := cell_of_row _ _ 6 _ _ _ hSz.1; have c0_7 := cell_of_row _ _ 7 _ _ _ hSz.1; have c1_0 := cell_of_row _ _ 0 _ _ _ hSz.2.1; have c1_1 := cell_of_row _ _ 1 _ _ _ hSz.2.1; have c1_2 := cell_of_row _ _ 2 _ _ _ hSz.2.1; have c1_3 := cell_of_row _ _ 3 _ _ _ hSz.2.1; have c1_4 := cell_of_row _ _ 4 _ _ _ hSz.2.1; have c1_5 := cell_of_row _ _ 5 _ _ _ hSz.2.1; have c1_6 := cell_of_row _ _ 6 _ _ _ hSz.2.1; have c1_7 := cell_of_row _ _ 7 _ _ _ hSz.2.1; simp at c0_0 c0_1 c0_2 c0_3 c0_4 c0_5 c0_6 c0_7 c1_0 c1_1 c1_2 c1_3 c1_4 c1_5 c1_6 c1_7; have eSz := hSz.2.2.1; have eS2z := hSz.2.2.2.1; have ea1z := hSz.2.2.2.2.1; have ea2z := hSz.2.2.2.2.2.1; have ea3z := hSz.2.2.2.2.2.2.1; have eb1z := hSz.2.2.2.2.2.2.2.1; have eb2z := hSz.2.2.2.2.2.2.2.2.1; have eb3z := hSz.2.2.2.2.2.2.2.2.2; go_simp; try with_reducible rfl)⟩) hS0 ?_
  go_simp
  refine wpAnyH_ready (rs := [9]) (by kernel_rfl) (by simp) ?_
  refine AllReadyH.cons rfl (fun K hK => ?_) AllReadyH.nil
  go_simp
  go_wp2_with (go_at_call 31; refine (hP _).mono ?_; rintro e y2 ⟨rfl, hb2⟩)
  have hr2_0 := (hb2.block _ (lt_heap hr1_0)).trans hr1_0
  have hr2_1 := (hb2.block _ (lt_heap hr1_1)).trans hr1_1
  have HU2 := Lib.hid (HU1.out.trans (hb2.mono HU1.out.size))
  refine hK.out _ _ (⟨(hb2.block _ (lt_heap hS0.1)).trans hS0.1, (hb2.block _ (lt_heap hS0.2.1)).trans hS0.2.1, (hb2.cell (p := ⟨xb, xo + i, none⟩) (World.block_lt_of_cell? _ _ (hS0.2.2.1))).trans hS0.2.2.1, (hb2.cell (p := ⟨xb2, xo2 + k, none⟩) (World.block_lt_of_cell? _ _ (hS0.2.2.2.1))).trans hS0.2.2.2.1, (hb2.cell (p := ⟨vb, vo + i * 3, none⟩) (World.block_lt_of_cell? _ _ (hS0.2.2.2.2.1))).trans hS0.2.2.2.2.1, (hb2.cell (p := ⟨vb, vo + i * 3 + 1, none⟩) (World.block_lt_of_cell? _ _ (hS0.2.2.2.2.2.1))).trans hS0.2.2.2.2.2.1, (hb2.cell (p := ⟨vb, vo + i * 3 + 2, none⟩) (World.block_lt_of_cell? _ _ (hS0.2.2.2.2.2.2.1))).trans hS0.2.2.2.2.2.2.1, (hb2.cell (p := ⟨vb2, vo2 + k * 3, none⟩) (World.block_lt_of_cell? _ _ (hS0.2.2.2.2.2.2.2.1))).trans hS0.2.2.2.2.2.2.2.1, (hb2.cell (p := ⟨vb2, vo2 + k * 3 + 1, none⟩) (World.block_lt_of_cell? _ _ (hS0.2.2.2.2.2.2.2.2.1))).trans hS0.2.2.2.2.2.2.2.2.1, (hb2.cell (p := ⟨vb2, vo2 + k * 3 + 2, none⟩) (World.block_lt_of_cell? _ _ (hS0.2.2.2.2.2.2.2.2.2))).trans hS0.2.2.2.2.2.2.2.2.2⟩) (fun hS2c => ?_)
  clear hK K
  refine wpAnyH_take (i := 10) (v := ?_) rfl (by kernel_rfl) (by kernel_rfl) (by kernel_rfl) (fun _ _ _ h => h) (Or.inl ⟨by kernel_rfl, by (intro wz hSz; go_simp; try with_reducible rfl)⟩) hS2c ?_
  go_simp
  refine wpAnyH_take (i := 11) (v := ?_) rfl (by kernel_rfl) (by kernel_rfl) (by kernel_rfl) (fun _ _ _ h => h) (Or.inl ⟨by kernel_rfl, by (intro wz hSz; go_simp; try with_reducible rfl)⟩) hS2c ?_
  go_simp
  refine wpAnyH_take (i := 12) (v := ?_) rfl (by kernel_rfl) (by kernel_rfl) (by kernel_rfl) (fun _ _ _ h => h) (Or.inl ⟨by kernel_rfl, by (intro wz hSz; go_simp; try with_reducible rfl)⟩) hS2c ?_
  go_simp
  refine wpAnyH_take (i := 13) (v := ?_) rfl (by kernel_rfl) (by kernel_rfl) (by kernel_rfl) (fun _ _ _ h => h) (Or.inl ⟨by kernel_rfl, by (intro wz hSz; go_simp; try with_reducible rfl)⟩) hS2c ?_
  go_simp
  refine wpAnyH_take (i := 14) (v := ?_) rfl (by kernel_rfl) (by kernel_rfl) (by kernel_rfl) (fun _ _ _ h => h) (Or.inl ⟨by kernel_rfl, by (intro wz hSz; go_simp; try with_reducible rfl)⟩) hS2c ?_
  go_simp
  refine wpAnyH_take (i := 15) (v := ?_) rfl (by kernel_rfl) (by kernel_rfl) (by kernel_rfl) (fun _ _ _ h => h) (Or.inl ⟨by kernel_rfl, by (intro wz hSz; go_simp; try with_reducible rfl)⟩) hS2c ?_
  go_simp
  refine wpAnyH_take (i := 16) (v := ?_) rfl (by kernel_rfl) (by kernel_rfl) (by kernel_rfl) (fun _ _ _ h => h) (Or.inl ⟨by kernel_rfl, by (intro wz hSz; have c0_0 := cell_of_row _ _ 0 _ _ _ hSz.1; have c0_1 := cell_of_row _ _ 1 _ _ _ hSz.1; have c0_2 := cell_of_row _ _ 2 _ _ _ hSz.1; have c0_3 := cell_of_row _ _ 3 _ _ _ hSz.1; have c0_4 := cell_of_row _ _ 4 _ _ _ hSz.1; have c0_5 := cell_of_row _ _ 5 _ _ _ hSz.1; have c0_6 := cell_of_row _ _ 6 _ _ _ hSz.1; have c0_7 := cell_of_row _ _ 7 _ _ _ hSz.1; have c1_0 := cell_of_row _ _ 0 _ _ _ hSz.2.1; have c1_1 := cell_of_row _ _ 1 _ _ _ hSz.2.1; have c1_2 := cell_of_row _ _ 2 _ _ _ hSz.2.1; have c1_3 := cell_of_row _ _ 3 _ _ _ hSz.2.1; have c1_4 := cell_of_row _ _ 4 _ _ _ hSz.2.1; have c1_5 := cell_of_row _ _ 5 _ _ _ hSz.2.1; have c1_6 := cell_of_row _ _ 6 _ _ _ hSz.2.1; have c1_7 := cell_of_row _ _ 7 _ _ _ hSz.2.1; simp at c0_0 c0_1 c0_2 c0_3 c0_4 c0_5 c0_6 c0_7 c1_0 c1_1 c1_2 c1_3 c1_4 c1_5 c1_6 c1_7; have eSz := hSz.2.2.1; have eS2z := hSz.2.2.2.1; have ea1z := hSz.2.2.2.2.1; have ea2z := hSz.2.2.2.2.2.1; have ea3z := hSz.2.2.2.2.2.2.1; have eb1z := hSz.2.2.2.2.2.2.2.1; have eb2z := hSz.2.2.2.2.2.2.2.2.1; have eb3z := hSz.2.2.2.2.2.2.2.2.2; go_simp; try with_reducible rfl)⟩) hS2c ?_
  go_simp
  refine wpAnyH_take (i := 17) (v := ?_) rfl (by kernel_rfl) (by kernel_rfl) (by kernel_rfl) (fun _ _ _ h => h) (Or.inl ⟨by kernel_rfl, by (intro wz hSz; go_simp; try with_reducible rfl)⟩) hS2c ?_
  go_simp
  refine wpAnyH_take (i := 18) (v := ?_) rfl (by kernel_rfl) (by kernel_rfl) (by kernel_rfl) (fun _ _ _ h => h) (Or.inl ⟨by kernel_rfl, by (intro wz hSz; go_simp; try with_reducible rfl)⟩) hS2c ?_
  go_simp
  refine wpAnyH_take (i := 19) (v := ?_) rfl (by kernel_rfl) (by kernel_rfl) (by kernel_rfl) (fun _ _ _ h => h) (Or.inl ⟨by kernel_rfl, by (intro wz hSz; have c0_0 := cell_of_row _ _ 0 _ _ _ hSz.1; have c0_1 := cell_of_row _ _ 1 _ _ _ hSz.1; have c0_2 := cell_of_row _ _ 2 _ _ _ hSz.1; have c0_3 := cell_of_row _ _ 3 _ _ _ hSz.1; have c0_4 := cell_of_row _ _ 4 _ _ _ hSz.1; have c0_5 := cell_of_row _ _ 5 _ _ _ hSz.1; have c0_6 := cell_of_row _ _ 6 _ _ _ hSz.1; have c0_7 := cell_of_row _ _ 7 _ _ _ hSz.1; have c1_0 := cell_of_row _ _ 0 _ _ _ hSz.2.1; have c1_1 := cell_of_row _ _ 1 _ _ _ hSz.2.1; have c1_2 := cell_of_row _ _ 2 _ _ _ hSz.2.1; have c1_3 := cell_of_row _ _ 3 _ _ _ hSz.2.1; have c1_4 := cell_of_row _ _ 4 _ _ _ hSz.2.1; have c1_5 := cell_of_row _ _ 5 _ _ _ hSz.2.1; have c1_6 := cell_of_row _ _ 6 _ _ _ hSz.2.1; have c1_7 := cell_of_row _ _ 7 _ _ _ hSz.2.1; simp at c0_0 c0_1 c0_2 c0_3 c0_4 c0_5 c0_6 c0_7 c1_0 c1_1 c1_2 c1_3 c1_4 c1_5 c1_6 c1_7; have eSz := hSz.2.2.1; have eS2z := hSz.2.2.2.1; have ea1z := hSz.2.2.2.2.1; have ea2z := hSz.2.2.2.2.2.1; have ea3z := hSz.2.2.2.2.2.2.1; have eb1z := hSz.2.2.2.2.2.2.2.1; have eb2z := hSz.2.2.2.2.2.2.2.2.1; have eb3z := hSz.2.2.2.2.2.2.2.2.2; go_simp; try with_reducible rfl)⟩) hS2c ?_
  go_simp
  refine wpAnyH_take (i := 20) (v := ?_) rfl (by kernel_rfl) (by kernel_rfl) (by kernel_rfl) (fun _ _ _ h => h) (Or.inl ⟨by kernel_rfl, by (intro wz hSz; go_simp; try with_reducible rfl)⟩) hS2c ?_
  go_simp
  refine wpAnyH_take (i := 21) (v := ?_) rfl (by kernel_rfl) (by kernel_rfl) (by kernel_rfl) (fun _ _ _ h => h) (Or.inl ⟨by kernel_rfl, by (intro wz hSz; go_simp; try with_reducible rfl)⟩) hS2c ?_
  go_simp
  refine wpAnyH_take (i := 22) (v := ?_) rfl (by kernel_rfl) (by kernel_rfl) (by kernel_rfl) (fun _ _ _ h => h) (Or.inl ⟨by kernel_rfl, by (intro wz hSz; go_simp; try with_reducible rfl)⟩) hS2c ?_
  go_simp
  refine wpAnyH_take (i := 23) (v := ?_) rfl (by kernel_rfl) (by kernel_rfl) (by kernel_rfl) (fun _ _ _ h => h) (Or.inl ⟨by kernel_rfl, by (intro wz hSz; have c0_0 := cell_of_row _ _ 0 _ _ _ hSz.1; have c0_1 := cell_of_row _ _ 1 _ _ _ hSz.1; have c0_2 := cell_of_row _ _ 2 _ _ _ hSz.1; have c0_3 := cell_of_row _ _ 3 _ _ _ hSz.1; have c0_4 := cell_of_row _ _ 4 _ _ _ hSz.1; have c0_5 := cell_of_row _ _ 5 _ _ _ hSz.1; have c0_6 := cell_of_row _ _ 6 _ _ _ hSz.1; have c0_7 := cell_of_row _ _ 7 _ _ _ hSz.1; have c1_0 := cell_of_row _ _ 0 _ _ _ hSz.2.1; have c1_1 := cell_of_row _ _ 1 _ _ _ hSz.2.1; have c1_2 := cell_of_row _ _ 2 _ _ _ hSz.2.1; have c1_3 := cell_of_row _ _ 3 _ _ _ hSz.2.1; have c1_4 := cell_of_row _ _ 4 _ _ _ hSz.2.1; have c1_5 := cell_of_row _ _ 5 _ _ _ hSz.2.1; have c1_6 := cell_of_row _ _ 6 _ _ _ hSz.2.1; have c1_7 := cell_of_row _ _ 7 _ _ _ hSz.2.1; simp at c0_0 c0_1 c0_2 c0_3 c0_4 c0_5 c0_6 c0_7 c1_0 c1_1 c1_2 c1_3 c1_4 c1_5 c1_6 c1_7; have eSz := hSz.2.2.1; have eS2z := hSz.2.2.2.1; have ea1z := hSz.2.2.2.2.1; have ea2z := hSz.2.2.2.2.2.1; have ea3z := hSz.2.2.2.2.2.2.1; have eb1z := hSz.2.2.2.2.2.2.2.1; have eb2z := hSz.2.2.2.2.2.2.2.2.1; have eb3z := hSz.2.2.2.2.2.2.2.2.2; go_simp; try with_reducible rfl)⟩) hS2c ?_
  go_simp
  refine wpAnyH_take (i := 24) (v := ?_) rfl (by kernel_rfl) (by kernel_rfl) (by kernel_rfl) (fun _ _ _ h => h) (Or.inl ⟨by kernel_rfl, by (intro wz hSz; go_simp; try with_reducible rfl)⟩) hS2c ?_
  go_simp
  refine wpAnyH_take (i := 25) (v := ?_) rfl (by kernel_rfl) (by kernel_rfl) (by kernel_rfl) (fun _ _ _ h => h) (Or.inl ⟨by kernel_rfl, by (intro wz hSz; go_simp; try with_reducible rfl)⟩) hS2c ?_
  go_simp
  refine wpAnyH_take (i := 26) (v := ?_) rfl (by kernel_rfl) (by kernel_rfl) (by kernel_rfl) (fun _ _ _ h => h) (Or.inl ⟨by kernel_rfl, by (intro wz hSz; have c0_0 := cell_of_row _ _ 0 _ _ _ hSz.1; have c0_1 := cell_of_row _ _ 1 _ _ _ hSz.1; have c0_2 := cell_of_row _ _ 2 _ _ _ hSz.1; have c0_3 := cell_of_row _ _ 3 _ _ _ hSz.1; have c0_4 := cell_of_row _ _ 4 _ _ _ hSz.1; have c0_5 := cell_of_row _ _ 5 _ _ _ hSz.1; have c0_6 := cell_of_row _ _ 6 _ _ _ hSz.1; have c0_7 := cell_of_row _ _ 7 _ _ _ hSz.1; have c1_0 := cell_of_row _ _ 0 _ _ _ hSz.2.1; have c1_1 := cell_of_row _ _ 1 _ _ _ hSz.2.1; have c1_2 := cell_of_row _ _ 2 _ _ _ hSz.2.1; have c1_3 := cell_of_row _ _ 3 _ _ _ hSz.2.1; have c1_4 := cell_of_row _ _ 4 _ _ _ hSz.2.1; have c1_5 := cell_of_row _ _ 5 _ _ _ hSz.2.1; have c1_6 := cell_of_row _ _ 6 _ _ _ hSz.2.1; have c1_7 := cell_of_row _ _ 7 _ _ _ hSz.2.1; simp at c0_0 c0_1 c0_2 c0_3 c0_4 c0_5 c0_6 c0_7 c1_0 c1_1 c1_2 c1_3 c1_4 c1_5 c1_6 c1_7; have eSz := hSz.2.2.1; have eS2z := hSz.2.2.2.1; have ea1z := hSz.2.2.2.2.1; have ea2z := hSz.2.2.2.2.2.1; have ea3z := hSz.2.2.2.2.2.2.1; have eb1z := hSz.2.2.2.2.2.2.2.1; have eb2z := hSz.2.2.2.2.2.2.2.2.1; have eb3z := hSz.2.2.2.2.2.2.2.2.2; go_simp; try with_reducible rfl)⟩) hS2c ?_
  go_simp
  refine wpAnyH_take (i := 27) (v := ?_) rfl (by kernel_rfl) (by kernel_rfl) (by kernel_rfl) (fun _ _ _ h => h) (Or.inl ⟨by kernel_rfl, by (intro wz hSz; go_simp; try with_reducible rfl)⟩) hS2c ?_
  go_simp
  refine wpAnyH_take (i := 28) (v := ?_) rfl (by kernel_rfl) (by kernel_rfl) (by kernel_rfl) (fun _ _ _ h => h) (Or.inl ⟨by kernel_rfl, by (intro wz hSz; go_simp; try with_reducible rfl)⟩) hS2c ?_
  go_simp
  refine wpAnyH_take (i := 29) (v := ?_) rfl (by kernel_rfl) (by kernel_rfl) (by kernel_rfl) (fun _ _ _ h => h) (Or.inl ⟨by kernel_rfl, by (intro wz hSz; go_simp; try with_reducible rfl)⟩) hS2c ?_
  go_simp
  refine wpAnyH_take (i := 30) (v := ?_) rfl (by kernel_rfl) (by kernel_rfl) (by kernel_rfl) (fun _ _ _ h => h) (Or.inl ⟨by kernel_rfl, by (intro wz hSz; go_simp; try with_reducible rfl)⟩) hS2c ?_
  go_simp
  refine wpAnyH_take (i := 31) (v := ?_) rfl (by kernel_rfl) (by kernel_rfl) (by kernel_rfl) (fun _ _ _ h => h) (Or.inl ⟨by kernel_rfl, by (intro wz hSz; go_simp; try with_reducible rfl)⟩) hS2c ?_
  go_simp
  refine wpAnyH_take (i := 32) (v := ?_) rfl (by kernel_rfl) (by kernel_rfl) (by kernel_rfl) (fun _ _ _ h => h) (Or.inl ⟨by kernel_rfl, by (intro wz hSz; go_simp; try with_reducible rfl)⟩) hS2c ?_
  go_simp
  refine wpAnyH_take (i := 33) (v := ?_) rfl (by kernel_rfl) (by kernel_rfl) (by kernel_rfl) (fun _ _ _ h => h) (Or.inl ⟨by kernel_rfl, by (intro wz hSz; have c0_0 := cell_of_row _ _ 0 _ _ _ hSz.1; have c0_1 := cell_of_row _ _ 1 _ _ _ hSz.1; have c0_2 := cell_of_row _ _ 2 _ _ _ hSz.1; have c0_3 := cell_of_row _ _ 3 _ _ _ hSz.1; have c0_4 := cell_of_row _ _ 4 _ _ _ hSz.1; have c0_5 := cell_of_row _ _ 5 _ _ _ hSz.1; have c0_6 := cell_of_row _ _ 6 _ _ _ hSz.1; have c0_7 := cell_of_row _ _ 7 _ _ _ hSz.1; have c1_0 := cell_of_row _ _ 0 _ _ _ hSz.2.1; have c1_1 := cell_of_row _ _ 1 _ _ _ hSz.2.1; have c1_2 := cell_of_row _ _ 2 _ _ _ hSz.2.1; have c1_3 := cell_of_row _ _ 3 _ _ _ hSz.2.1; have c1_4 := cell_of_row _ _ 4 _ _ _ hSz.2.1; have c1_5 := cell_of_row _ _ 5 _ _ _ hSz.2.1; have c1_6 := cell_of_row _ _ 6 _ _ _ hSz.2.1; have c1_7 := cell_of_row _ _ 7 _ _ _ hSz.2.1; simp at c0_0 c0_1 c0_2 c0_3 c0_4 c0_5 c0_6 c0_7 c1_0 c1_1 c1_2 c1_3 c1_4 c1_5 c1_6 c1_7; have eSz := hSz.2.2.1; have eS2z := hSz.2.2.2.1; have ea1z := hSz.2.2.2.2.1; have ea2z := hSz.2.2.2.2.2.1; have ea3z := hSz.2.2.2.2.2.2.1; have eb1z := hSz.2.2.2.2.2.2.2.1; have eb2z := hSz.2.2.2.2.2.2.2.2.1; have eb3z := hSz.2.2.2.2.2.2.2.2.2; go_simp; try with_reducible rfl)⟩) hS2c ?_
  go_simp
  refine wpAnyH_take (i := 34) (v := ?_) rfl (by kernel_rfl) (by kernel_rfl) (by kernel_rfl) (fun _ _ _ h => h) (Or.inl ⟨by kernel_rfl, by (intro wz hSz; go_simp; try with_reducible rfl)⟩) hS2c ?_
  go_simp
  refine wpAnyH_take (i := 35) (v := ?_) rfl (by kernel_rfl) (by kernel_rfl) (by kernel_rfl) (fun _ _ _ h => h) (Or.inl ⟨by kernel_rfl, by (intro wz hSz; go_simp; try with_reducible rfl)⟩) hS2c ?_
  go_simp
  refine wpAnyH_take (i := 36) (v := ?_) rfl (by kernel_rfl) (by kernel_rfl) (by kernel_rfl) (fun _ _ _ h => h) (Or.inl ⟨by kernel_rfl, by (intro wz hSz; have c0_0 := cell_of_row _ _ 0 _ _ _ hSz.1; have c0_1 := cell_of_row _ _ 1 _ _ _ hSz.1; have c0_2 := cell_of_row _ _ 2 _ _ _ hSz.1; have c0_3 := cell_of_row _ _ 3 _ _ _ hSz.1; have c0_4 := cell_of_row _ _ 4 _ _ _ hSz.1; have c0_5 := cell_of_row _ _ 5 _ _ _ hSz.1; have c0_6 := cell_of_row _ _ 6 _ _ _ hSz.1; have c0_7 := cell_of_row _ _ 7 _ _ _ hSz.1; have c1_0 := cell_of_row _ _ 0 _ _ _ hSz.2.1; have c1_1 := cell_of_row _ _ 1 _ _ _ hSz.2.1; have c1_2 := cell_of_row _ _ 2 _ _ _ hSz.2.1; have c1_3 := cell_of_row _ _ 3 _ _ _ hSz.2.1; have c1_4 := cell_of_row _ _ 4 _ _ _ hSz.2.1; have c1_5 := cell_of_row _ _ 5 _ _ _ hSz.2.1; have c1_6 := cell_of_row _ _ 6 _ _ _ hSz.2.1; have c1_7 := cell_of_row _ _ 7 _ _ _ hSz.2.1; simp at c0_0 c0_1 c0_2 c0_3 c0_4 c0_5 c0_6 c0_7 c1_0 c1_1 c1_2 c1_3 c1_4 c1_5 c1_6 c1_7; have eSz := hSz.2.2.1; have eS2z := hSz.2.2.2.1; have ea1z := hSz.2.2.2.2.1; have ea2z := hSz.2.2.2.2.2.1; have ea3z := hSz.2.2.2.2.2.2.1; have eb1z := hSz.2.2.2.2.2.2.2.1; have eb2z := hSz.2.2.2.2.2.2.2.2.1; have eb3z := hSz.2.2.2.2.2.2.2.2.2; go_simp; try with_reducible rfl)⟩) hS2c ?_
  go_simp
  refine wpAnyH_take (i := 37) (v := ?_) rfl (by kernel_rfl) (by kernel_rfl) (by kernel_rfl) (fun _ _ _ h => h) (Or.inl ⟨by kernel_rfl, by (intro wz hSz; go_simp; try with_reducible rfl)⟩) hS2c ?_
  go_simp
  refine wpAnyH_take (i := 38) (v := ?_) rfl (by kernel_rfl) (by kernel_rfl) (by kernel_rfl) (fun _ _ _ h => h) (Or.inl ⟨by kernel_rfl, by (intro wz hSz; go_simp; try with_reducible rfl)⟩) hS2c ?_
  go_simp
  refine wpAnyH_take (i := 39) (v := ?_) rfl (by kernel_rfl) (by kernel_rfl) (by kernel_rfl) (fun _ _ _ h => h) (Or.inl ⟨by kernel_rfl, by (intro wz hSz; go_simp; try with_reducible rfl)⟩) hS2c ?_
  go_simp
  refine wpAnyH_take (i := 40) (v := ?_) rfl (by kernel_rfl) (by kernel_rfl) (by kernel_rfl) (fun _ _ _ h => h) (Or.inl ⟨by kernel_rfl, by (intro wz hSz; have c0_0 := cell_of_row _ _ 0 _ _ _ hSz.1; have c0_1 := cell_of_row _ _ 1 _ _ _ hSz.1; have c0_2 := cell_of_row _ _ 2 _ _ _ hSz.1; have c0_3 := cell_of_row _ _ 3 _ _ _ hSz.1; have c0_4 := cell_of_row _ _ 4 _ _ _ hSz.1; have c0_5 := cell_of_row _ _ 5 _ _ _ hSz.1; have c0_6 := cell_of_row _ _ 6 _ _ _ hSz.1; have c0_7 := cell_of_row _ _ 7 _ _ _ hSz.1; have c1_0 := cell_of_row _ _ 0 _ _ _ hSz.2.1; have c1_1 := cell_of_row _ _ 1 _ _ _ hSz.2.1; have c1_2 := cell_of_row _ _ 2 _ _ _ hSz.2.1; have c1_3 := cell_of_row _ _ 3 _ _ _ hSz.2.1; have c1_4 := cell_of_row _ _ 4 _ _ _ hSz.2.1; have c1_5 := cell_of_row _ _ 5 _ _ _ hSz.2.1; have c1_6 := cell_of_row _ _ 6 _ _ _ hSz.2.1; have c1_7 := cell_of_row _ _ 7 _ _ _ hSz.2.1; simp at c0_0 c0_1 c0_2 c0_3 c0_4 c0_5 c0_6 c0_7 c1_0 c1_1 c1_2 c1_3 c1_4 c1_5 c1_6 c1_7; have eSz := hSz.2.2.1; have eS2z := hSz.2.2.2.1; have ea1z := hSz.2.2.2.2.1; have ea2z := hSz.2.2.2.2.2.1; have ea3z := hSz.2.2.2.2.2.2.1; have eb1z := hSz.2.2.2.2.2.2.2.1; have eb2z := hSz.2.2.2.2.2.2.2.2.1; have eb3z := hSz.2.2.2.2.2.2.2.2.2; go_simp; try with_reducible rfl)⟩) hS2c ?_
  go_simp
  refine wpAnyH_take (i := 41) (v := ?_) rfl (by kernel_rfl) (by kernel_rfl) (by kernel_rfl) (fun _ _ _ h => h) (Or.inl ⟨by kernel_rfl, by (intro wz hSz; go_simp; try with_reducible rfl)⟩) hS2c ?_
  go_simp
  refine wpAnyH_take (i := 42) (v := ?_) rfl (by kernel_rfl) (by kernel_rfl) (by kernel_rfl) (fun _ _ _ h => h) (Or.inl ⟨by kernel_rfl, by (intro wz hSz; go_simp; try with_reducible rfl)⟩) hS2c ?_
  go_simp
  refine wpAnyH_take (i := 43) (v := ?_) rfl (by kernel_rfl) (by kernel_rfl) (by kernel_rfl) (fun _ _ _ h => h) (Or.inl ⟨by kernel_rfl, by (intro wz hSz; have c0_0 := cell_of_row _ _ 0 _ _ _ hSz.1; have c0_1 := cell_of_row _ _ 1 _ _ _ hSz.1; have c0_2 := cell_of_row _ _ 2 _ _ _ hSz.1; have c0_3 := cell_of_row _ _ 3 _ _ _ hSz.1; have c0_4 := cell_of_row _ _ 4 _ _ _ hSz.1; have c0_5 := cell_of_row _ _ 5 _ _ _ hSz.1; have c0_6 := cell_of_row _ _ 6 _ _ _ hSz.1; have c0_7 := cell_of_row _ _ 7 _ _ _ hSz.1; have c1_0 := cell_of_row _ _ 0 _ _ _ hSz.2.1; have c1_1 := cell_of_row _ _ 1 _ _ _ hSz.2.1; have c1_2 := cell_of_row _ _ 2 _ _ _ hSz.2.1; have c1_3 := cell_of_row _ _ 3 _ _ _ hSz.2.1; have c1_4 := cell_of_row _ _ 4 _ _ _ hSz.2.1; have c1_5 := cell_of_row _ _ 5 _ _ _ hSz.2.1; have c1_6 := cell_of_row _ _ 6 _ _ _ hSz.2.1; have c1_7 := cell_of_row _ _ 7 _ _ _ hSz.2.1; simp at c0_0 c0_1 c0_2 c0_3 c0_4 c0_5 c0_6 c0_7 c1_0 c1_1 c1_2 c1_3 c1_4 c1_5 c1_6 c1_7; have eSz := hSz.2.2.1; have eS2z := hSz.2.2.2.1; have ea1z := hSz.2.2.2.2.1; have ea2z := hSz.2.2.2.2.2.1; have ea3z := hSz.2.2.2.2.2.2.1; have eb1z := hSz.2.2.2.2.2.2.2.1; have eb2z := hSz.2.2.2.2.2.2.2.2.1; have eb3z := hSz.2.2.2.2.2.2.2.2.2; go_simp; try with_reducible rfl)⟩) hS2c ?_
  go_simp
  refine wpAnyH_ready (rs := [44]) (by kernel_rfl) (by simp) ?_
  refine AllReadyH.cons rfl (fun K hK => ?_) AllReadyH.nil
  go_simp
  go_wp2_with (go_at_call 35; refine (hT _).mono ?_; rintro e y3 ⟨rfl, hb3⟩)
  have hr3_0 := (hb3.block _ (lt_heap hr2_0)).trans hr2_0
  have hr3_1 := (hb3.block _ (lt_heap hr2_1)).trans hr2_1
  have HU3 := Lib.hid (HU2.out.trans (hb3.mono HU2.out.size))
  refine hK.out _ _ (⟨(hb3.block _ (lt_heap hS2c.1)).trans hS2c.1, (hb3.block _ (lt_heap hS2c.2.1)).trans hS2c.2.1, (hb3.cell (p := ⟨xb, xo + i, none⟩) (World.block_lt_of_cell? _ _ (hS2c.2.2.1))).trans hS2c.2.2.1, (hb3.cell (p := ⟨xb2, xo2 + k, none⟩) (World.block_lt_of_cell? _ _ (hS2c.2.2.2.1))).trans hS2c.2.2.2.1, (hb3.cell (p := ⟨vb, vo + i * 3, none⟩) (World.block_lt_of_cell? _ _ (hS2c.2.2.2.2.1))).trans hS2c.2.2.2.2.1, (hb3.cell (p := ⟨vb, vo + i * 3 + 1, none⟩) (World.block_lt_of_cell? _ _ (hS2c.2.2.2.2.2.1))).trans hS2c.2.2.2.2.2.1, (hb3.cell (p := ⟨vb, vo + i * 3 + 2, none⟩) (World.block_lt_of_cell? _ _ (hS2c.2.2.2.2.2.2.1))).trans hS2c.2.2.2.2.2.2.1, (hb3.cell (p := ⟨vb2, vo2 + k * 3, none⟩) (World.block_lt_of_cell? _ _ (hS2c.2.2.2.2.2.2.2.1))).trans hS2c.2.2.2.2.2.2.2.1, (hb3.cell (p := ⟨vb2, vo2 + k * 3 + 1, none⟩) (World.block_lt_of_cell? _ _ (hS2c.2.2.2.2.2.2.2.2.1))).trans hS2c.2.2.2.2.2.2.2.2.1, (hb3.cell (p := ⟨vb2, vo2 + k * 3 + 2, none⟩) (World.block_lt_of_cell? _ _ (hS2c.2.2.2.2.2.2.2.2.2))).trans hS2c.2.2.2.2.2.2.2.2.2⟩) (fun hS3c => ?_)
  clear hK K
  refine wpAnyH_take (i := 45) (v := ?_) rfl (by kernel_rfl) (by kernel_rfl) (by kernel_rfl) (fun _ _ _ h => h) (Or.inl ⟨by kernel_rfl, by (intro wz hSz; go_simp; try with_reducible rfl)⟩) hS3c ?_
  go_simp
  refine wpAnyH_take (i := 46) (v := ?_) rfl (by kernel_rfl) (by kernel_rfl) (by kernel_rfl) (fun _ _ _ h => h) (Or.inl ⟨by kernel_rfl, by (intro wz hSz; go_simp; try with_reducible rfl)⟩) hS3c ?_
  go_simp
  refine wpAnyH_done (by kernel_rfl) ?_ _
  go_wp2
  exact bodyPost_ret (v := .tuple #[.int .i64 k, .bool true]) (by simp [results, Try.results25, go_sem]) rfl ⟨rfl, HU3.out⟩

set_option maxHeartbeats 4000000 in
set_option maxRecDepth 100000 in
theorem dpast_neg (W H W2 H2 : Int) (al ad an ab ax al2 ad2 an2 ab2 ax2 af2 : Option Addr) (fb fo cl cd cn cb cx cf nl nd nn nb ns nf cl2 cd2 cn2 cb2 cx2 cf2 nl2 nd2 nn2 nb2 ns2 nf2 : Nat) (w : World) (i : Nat) (hi : i < nf) (hsn : ns = nf) (hnn : nn = nf) (u : Int) (hu : u < 0) (eF : w.cell? ⟨fb, fo + i, none⟩ = some (.int .i64 u)) : Calls Try.prog 28 #[.agg #[.int .i64 W, .int .i64 H, .slice al nl cl, .slice ad nd cd, .slice an nn cn, .slice ab nb cb, .slice ax ns cx, .slice (some ⟨fb, fo, none⟩) nf cf], .agg #[.int .i64 W2, .int .i64 H2, .slice al2 nl2 cl2, .slice ad2 nd2 cd2, .slice an2 nn2 cn2, .slice ab2 nb2 cb2, .slice ax2 ns2 cx2, .slice af2 nf2 cf2], .int .i64 i] w fun e' w' => e' = .returned (.int .i64 (-1)) ∧ Below w.heap.size w w' := by
  have hi' : (i : Int) < nf := by omega
  have hi2 : (i : Int) < ns := by omega
  have hi3 : (i : Int) < nn := by omega
  have d0 : decide (u < 0) = true := decide_eq_true hu
  clear hu
  clear hsn hnn
  go_enter Try.func28, Try.ntmps28
  go_upto_region 1 with fail
  have hR := Au.rows2 w (.cells #[.int .i64 W, .int .i64 H, .slice al nl cl, .slice ad nd cd, .slice an nn cn, .slice ab nb cb, .slice ax ns cx, .slice (some ⟨fb, fo, none⟩) nf cf] 29) (.cells #[.int .i64 W2, .int .i64 H2, .slice al2 nl2 cl2, .slice ad2 nd2 cd2, .slice an2 nn2 cn2, .slice ab2 nb2 cb2, .slice ax2 ns2 cx2, .slice af2 nf2 cf2] 29)
  have HUx := Ve.below_n2 w (.cells #[.int .i64 W, .int .i64 H, .slice al nl cl, .slice ad nd cd, .slice an nn cn, .slice ab nb cb, .slice ax ns cx, .slice (some ⟨fb, fo, none⟩) nf cf] 29) (.cells #[.int .i64 W2, .int .i64 H2, .slice al2 nl2 cl2, .slice ad2 nd2 cd2, .slice an2 nn2 cn2, .slice ab2 nb2 cb2, .slice ax2 ns2 cx2, .slice af2 nf2 cf2] 29)
  obtain ⟨y0, hy0⟩ : ∃ y0, (w.alloc (.cells #[.int .i64 W, .int .i64 H, .slice al nl cl, .slice ad nd cd, .slice an nn cn, .slice ab nb cb, .slice ax ns cx, .slice (some ⟨fb, fo, none⟩) nf cf] 29)).alloc (.cells #[.int .i64 W2, .int .i64 H2, .slice al2 nl2 cl2, .slice ad2 nd2 cd2, .slice an2 nn2 cn2, .slice ab2 nb2 cb2, .slice ax2 ns2 cx2, .slice af2 nf2 cf2] 29) = y0 := ⟨_, rfl⟩
  rw [hy0] at hR HUx ⊢
  clear hy0
  have HU0 := Lib.hid HUx
  clear HUx
  obtain ⟨hr0_0, hr0_1⟩ := hR
  replace eF := (HU0.out.cell (p := ⟨fb, fo + i, none⟩) (World.block_lt_of_cell? _ _ eF)).trans eF
  have c0_0 := cell_of_row _ _ 0 _ _ _ hr0_0
  have c0_1 := cell_of_row _ _ 1 _ _ _ hr0_0
  have c0_2 := cell_of_row _ _ 2 _ _ _ hr0_0
  have c0_3 := cell_of_row _ _ 3 _ _ _ hr0_0
  have c0_4 := cell_of_row _ _ 4 _ _ _ hr0_0
  have c0_5 := cell_of_row _ _ 5 _ _ _ hr0_0
  have c0_6 := cell_of_row _ _ 6 _ _ _ hr0_0
  have c0_7 := cell_of_row _ _ 7 _ _ _ hr0_0
  have c1_0 := cell_of_row _ _ 0 _ _ _ hr0_1
  have c1_1 := cell_of_row _ _ 1 _ _ _ hr0_1
  have c1_2 := cell_of_row _ _ 2 _ _ _ hr0_1
  have c1_3 := cell_of_row _ _ 3 _ _ _ hr0_1
  have c1_4 := cell_of_row _ _ 4 _ _ _ hr0_1
  have c1_5 := cell_of_row _ _ 5 _ _ _ hr0_1
  have c1_6 := cell_of_row _ _ 6 _ _ _ hr0_1
  have c1_7 := cell_of_row _ _ 7 _ _ _ hr0_1
  simp at c0_0 c0_1 c0_2 c0_3 c0_4 c0_5 c0_6 c0_7 c1_0 c1_1 c1_2 c1_3 c1_4 c1_5 c1_6 c1_7
  go_upto_region 2 with fail
  clear c0_0 c0_1 c0_2 c0_3 c0_4 c0_5 c0_6 c0_7 c1_0 c1_1 c1_2 c1_3 c1_4 c1_5 c1_6 c1_7
  refine wp_region_held_drew (S := fun y => y.heap[w.heap.size]? = some (.cells #[.int .i64 W, .int .i64 H, .slice al nl cl, .slice ad nd cd, .slice an nn cn, .slice ab nb cb, .slice ax ns cx, .slice (some ⟨fb, fo, none⟩) nf cf] 29 (0, 0)) ∧ y.heap[w.heap.size + 1]? = some (.cells #[.int .i64 W2, .int .i64 H2, .slice al2 nl2 cl2, .slice ad2 nd2 cd2, .slice an2 nn2 cn2, .slice ab2 nb2 cb2, .slice ax2 ns2 cx2, .slice af2 nf2 cf2] 29 (0, 0))) (by kernel_rfl) (⟨hr0_0, hr0_1⟩) (fun hS0 => ?_)
  obtain ⟨y1, hy1⟩ : ∃ y, y0.drew = y := ⟨_, rfl⟩
  have HU1 := Lib.hid (show Below w.heap.size w y1 by rw [← hy1]; exact HU0.out.drew)
  have hr1_0 : y1.heap[w.heap.size]? = some (.cells #[.int .i64 W, .int .i64 H, .slice al nl cl, .slice ad nd cd, .slice an nn cn, .slice ab nb cb, .slice ax ns cx, .slice (some ⟨fb, fo, none⟩) nf cf] 29 (0, 0)) := by rw [← hy1]; exact hr0_0
  have hr1_1 : y1.heap[w.heap.size + 1]? = some (.cells #[.int .i64 W2, .int .i64 H2, .slice al2 nl2 cl2, .slice ad2 nd2 cd2, .slice an2 nn2 cn2, .slice ab2 nb2 cb2, .slice ax2 ns2 cx2, .slice af2 nf2 cf2] 29 (0, 0)) := by rw [← hy1]; exact hr0_1
  rw [hy1] at hS0 ⊢
  clear hy1
  refine wpAnyH_take (i := 0) (v := ?_) rfl (by kernel_rfl) (by kernel_rfl) (by kernel_rfl) (fun _ _ _ h => h) (Or.inl ⟨by kernel_rfl, by (intro wz hSz; go_simp; try with_reducible rfl)⟩) hS0 ?_
  go_simp
  refine wpAnyH_take (i := 1) (v := ?_) rfl (by kernel_rfl) (by kernel_rfl) (by kernel_rfl) (fun _ _ _ h => h) (Or.inl ⟨by kernel_rfl, by (intro wz hSz; go_simp; try with_reducible rfl)⟩) hS0 ?_
  go_simp
  refine wpAnyH_take (i := 2) (v := ?_) rfl (by kernel_rfl) (by kernel_rfl) (by kernel_rfl) (fun _ _ _ h => h) (Or.inl ⟨by kernel_rfl, by (intro wz hSz; go_simp; try with_reducible rfl)⟩) hS0 ?_
  go_simp
  refine wpAnyH_take (i := 3) (v := undef) rfl (by kernel_rfl) (by kernel_rfl) (by kernel_rfl) (fun _ _ _ h => h) (Or.inr ⟨by kernel_rfl, rfl⟩) hS0 ?_
  go_simp
  refine wpAnyH_take (i := 4) (v := undef) rfl (by kernel_rfl) (by kernel_rfl) (by kernel_rfl) (fun _ _ _ h => h) (Or.inr ⟨by kernel_rfl, rfl⟩) hS0 ?_
  go_simp
  refine wpAnyH_take (i := 5) (v := undef) rfl (by kernel_rfl) (by kernel_rfl) (by kernel_rfl) (fun _ _ _ h => h) (Or.inr ⟨by kernel_rfl, rfl⟩) hS0 ?_
  go_simp
  refine wpAnyH_take (i := 6) (v := undef) rfl (by kernel_rfl) (by kernel_rfl) (by kernel_rfl) (fun _ _ _ h => h) (Or.inr ⟨by kernel_rfl, rfl⟩) hS0 ?_
  go_simp
  refine wpAnyH_take (i := 7) (v := undef) rfl (by kernel_rfl) (by kernel_rfl) (by kernel_rfl) (fun _ _ _ h => h) (Or.inr ⟨by kernel_rfl, rfl⟩) hS0 ?_
  go_simp
  refine wpAnyH_take (i := 8) (v := ?_) rfl (by kernel_rfl) (by kernel_rfl) (by kernel_rfl) (fun _ _ _ h => h) (Or.inl ⟨by kernel_rfl, by (intro wz hSz; go_simp; try with_reducible rfl)⟩) hS0 ?_
  go_simp
  refine wpAnyH_take (i := 9) (v := ?_) rfl (by kernel_rfl) (by kernel_rfl) (by kernel_rfl) (fun _ _ _ h => h) (Or.inl ⟨by kernel_rfl, by (intro wz hSz; go_simp; try with_reducible rfl)⟩) hS0 ?_
  go_simp
  refine wpAnyH_take (i := 10) (v := undef) rfl (by kernel_rfl) (by kernel_rfl) (by kernel_rfl) (fun _ _ _ h => h) (Or.inr ⟨by kernel_rfl, rfl⟩) hS0 ?_
  go_simp
  refine wpAnyH_take (i := 11) (v := undef) rfl (by kernel_rfl) (by kernel_rfl) (by kernel_rfl) (fun _ _ _ h => h) (Or.inr ⟨by kernel_rfl, rfl⟩) hS0 ?_
  go_simp
  refine wpAnyH_take (i := 12) (v := undef) rfl (by kernel_rfl) (by kernel_rfl) (by kernel_rfl) (fun _ _ _ h => h) (Or.inr ⟨by kernel_rfl, rfl⟩) hS0 ?_
  go_simp
  refine wpAnyH_take (i := 13) (v := undef) rfl (by kernel_rfl) (by kernel_rfl) (by kernel_rfl) (fun _ _ _ h => h) (Or.inr ⟨by kernel_rfl, rfl⟩) hS0 ?_
  go_simp
  refine wpAnyH_take (i := 14) (v := undef) rfl (by kernel_rfl) (by kernel_rfl) (by kernel_rfl) (fun _ _ _ h => h) (Or.inr ⟨by kernel_rfl, rfl⟩) hS0 ?_
  go_simp
  refine wpAnyH_take (i := 15) (v := undef) rfl (by kernel_rfl) (by kernel_rfl) (by kernel_rfl) (fun _ _ _ h => h) (Or.inr ⟨by kernel_rfl, rfl⟩) hS0 ?_
  go_simp
  refine wpAnyH_take (i := 16) (v := undef) rfl (by kernel_rfl) (by kernel_rfl) (by kernel_rfl) (fun _ _ _ h => h) (Or.inr ⟨by kernel_rfl, rfl⟩) hS0 ?_
  go_simp
  refine wpAnyH_take (i := 17) (v := undef) rfl (by kernel_rfl) (by kernel_rfl) (by kernel_rfl) (fun _ _ _ h => h) (Or.inr ⟨by kernel_rfl, rfl⟩) hS0 ?_
  go_simp
  refine wpAnyH_take (i := 18) (v := undef) rfl (by kernel_rfl) (by kernel_rfl) (by kernel_rfl) (fun _ _ _ h => h) (Or.inr ⟨by kernel_rfl, rfl⟩) hS0 ?_
  go_simp
  refine wpAnyH_take (i := 19) (v := undef) rfl (by kernel_rfl) (by kernel_rfl) (by kernel_rfl) (fun _ _ _ h => h) (Or.inr ⟨by kernel_rfl, rfl⟩) hS0 ?_
  go_simp
  refine wpAnyH_take (i := 20) (v := undef) rfl (by kernel_rfl) (by kernel_rfl) (by kernel_rfl) (fun _ _ _ h => h) (Or.inr ⟨by kernel_rfl, rfl⟩) hS0 ?_
  go_simp
  refine wpAnyH_take (i := 21) (v := ?_) rfl (by kernel_rfl) (by kernel_rfl) (by kernel_rfl) (fun _ _ _ h => h) (Or.inl ⟨by kernel_rfl, by (intro wz hSz; go_simp; try with_reducible rfl)⟩) hS0 ?_
  go_simp
  refine wpAnyH_done (by kernel_rfl) ?_ _
  go_wp2
  go_ret
  exact ⟨rfl, HU1.out⟩

set_option maxHeartbeats 4000000 in
set_option maxRecDepth 100000 in
theorem dpast_far (W H W2 H2 : Int) (al ad an ab ax al2 ad2 an2 ab2 ax2 af2 : Option Addr) (fb fo cl cd cn cb cx cf nl nd nn nb ns nf cl2 cd2 cn2 cb2 cx2 cf2 nl2 nd2 nn2 nb2 ns2 nf2 : Nat) (w : World) (i : Nat) (hi : i < nf) (hsn : ns = nf) (hnn : nn = nf) (k : Nat) (eF : w.cell? ⟨fb, fo + i, none⟩ = some (.int .i64 (k : Int))) (hk : ¬ k < ns2) : Calls Try.prog 28 #[.agg #[.int .i64 W, .int .i64 H, .slice al nl cl, .slice ad nd cd, .slice an nn cn, .slice ab nb cb, .slice ax ns cx, .slice (some ⟨fb, fo, none⟩) nf cf], .agg #[.int .i64 W2, .int .i64 H2, .slice al2 nl2 cl2, .slice ad2 nd2 cd2, .slice an2 nn2 cn2, .slice ab2 nb2 cb2, .slice ax2 ns2 cx2, .slice af2 nf2 cf2], .int .i64 i] w fun e' w' => e' = .returned (.int .i64 (-1)) ∧ Below w.heap.size w w' := by
  have hi' : (i : Int) < nf := by omega
  have hi2 : (i : Int) < ns := by omega
  have hi3 : (i : Int) < nn := by omega
  have d0 : decide ((k : Int) < 0) = false := decide_eq_false (by omega)
  have d1 : decide (ns2 ≤ k) = true := decide_eq_true (by omega)
  clear hsn hnn
  go_enter Try.func28, Try.ntmps28
  go_upto_region 1 with fail
  have hR := Au.rows2 w (.cells #[.int .i64 W, .int .i64 H, .slice al nl cl, .slice ad nd cd, .slice an nn cn, .slice ab nb cb, .slice ax ns cx, .slice (some ⟨fb, fo, none⟩) nf cf] 29) (.cells #[.int .i64 W2, .int .i64 H2, .slice al2 nl2 cl2, .slice ad2 nd2 cd2, .slice an2 nn2 cn2, .slice ab2 nb2 cb2, .slice ax2 ns2 cx2, .slice af2 nf2 cf2] 29)
  have HUx := Ve.below_n2 w (.cells #[.int .i64 W, .int .i64 H, .slice al nl cl, .slice ad nd cd, .slice an nn cn, .slice ab nb cb, .slice ax ns cx, .slice (some ⟨fb, fo, none⟩) nf cf] 29) (.cells #[.int .i64 W2, .int .i64 H2, .slice al2 nl2 cl2, .slice ad2 nd2 cd2, .slice an2 nn2 cn2, .slice ab2 nb2 cb2, .slice ax2 ns2 cx2, .slice af2 nf2 cf2] 29)
  obtain ⟨y0, hy0⟩ : ∃ y0, (w.alloc (.cells #[.int .i64 W, .int .i64 H, .slice al nl cl, .slice ad nd cd, .slice an nn cn, .slice ab nb cb, .slice ax ns cx, .slice (some ⟨fb, fo, none⟩) nf cf] 29)).alloc (.cells #[.int .i64 W2, .int .i64 H2, .slice al2 nl2 cl2, .slice ad2 nd2 cd2, .slice an2 nn2 cn2, .slice ab2 nb2 cb2, .slice ax2 ns2 cx2, .slice af2 nf2 cf2] 29) = y0 := ⟨_, rfl⟩
  rw [hy0] at hR HUx ⊢
  clear hy0
  have HU0 := Lib.hid HUx
  clear HUx
  obtain ⟨hr0_0, hr0_1⟩ := hR
  replace eF := (HU0.out.cell (p := ⟨fb, fo + i, none⟩) (World.block_lt_of_cell? _ _ eF)).trans eF
  have c0_0 := cell_of_row _ _ 0 _ _ _ hr0_0
  have c0_1 := cell_of_row _ _ 1 _ _ _ hr0_0
  have c0_2 := cell_of_row _ _ 2 _ _ _ hr0_0
  have c0_3 := cell_of_row _ _ 3 _ _ _ hr0_0
  have c0_4 := cell_of_row _ _ 4 _ _ _ hr0_0
  have c0_5 := cell_of_row _ _ 5 _ _ _ hr0_0
  have c0_6 := cell_of_row _ _ 6 _ _ _ hr0_0
  have c0_7 := cell_of_row _ _ 7 _ _ _ hr0_0
  have c1_0 := cell_of_row _ _ 0 _ _ _ hr0_1
  have c1_1 := cell_of_row _ _ 1 _ _ _ hr0_1
  have c1_2 := cell_of_row _ _ 2 _ _ _ hr0_1
  have c1_3 := cell_of_row _ _ 3 _ _ _ hr0_1
  have c1_4 := cell_of_row _ _ 4 _ _ _ hr0_1
  have c1_5 := cell_of_row _ _ 5 _ _ _ hr0_1
  have c1_6 := cell_of_row _ _ 6 _ _ _ hr0_1
  have c1_7 := cell_of_row _ _ 7 _ _ _ hr0_1
  simp at c0_0 c0_1 c0_2 c0_3 c0_4 c0_5 c0_6 c0_7 c1_0 c1_1 c1_2 c1_3 c1_4 c1_5 c1_6 c1_7
  go_upto_region 2 with fail
  clear c0_0 c0_1 c0_2 c0_3 c0_4 c0_5 c0_6 c0_7 c1_0 c1_1 c1_2 c1_3 c1_4 c1_5 c1_6 c1_7
  refine wp_region_held_drew (S := fun y => y.heap[w.heap.size]? = some (.cells #[.int .i64 W, .int .i64 H, .slice al nl cl, .slice ad nd cd, .slice an nn cn, .slice ab nb cb, .slice ax ns cx, .slice (some ⟨fb, fo, none⟩) nf cf] 29 (0, 0)) ∧ y.heap[w.heap.size + 1]? = some (.cells #[.int .i64 W2, .int .i64 H2, .slice al2 nl2 cl2, .slice ad2 nd2 cd2, .slice an2 nn2 cn2, .slice ab2 nb2 cb2, .slice ax2 ns2 cx2, .slice af2 nf2 cf2] 29 (0, 0))) (by kernel_rfl) (⟨hr0_0, hr0_1⟩) (fun hS0 => ?_)
  obtain ⟨y1, hy1⟩ : ∃ y, y0.drew = y := ⟨_, rfl⟩
  have HU1 := Lib.hid (show Below w.heap.size w y1 by rw [← hy1]; exact HU0.out.drew)
  have hr1_0 : y1.heap[w.heap.size]? = some (.cells #[.int .i64 W, .int .i64 H, .slice al nl cl, .slice ad nd cd, .slice an nn cn, .slice ab nb cb, .slice ax ns cx, .slice (some ⟨fb, fo, none⟩) nf cf] 29 (0, 0)) := by rw [← hy1]; exact hr0_0
  have hr1_1 : y1.heap[w.heap.size + 1]? = some (.cells #[.int .i64 W2, .int .i64 H2, .slice al2 nl2 cl2, .slice ad2 nd2 cd2, .slice an2 nn2 cn2, .slice ab2 nb2 cb2, .slice ax2 ns2 cx2, .slice af2 nf2 cf2] 29 (0, 0)) := by rw [← hy1]; exact hr0_1
  rw [hy1] at hS0 ⊢
  clear hy1
  refine wpAnyH_take (i := 0) (v := ?_) rfl (by kernel_rfl) (by kernel_rfl) (by kernel_rfl) (fun _ _ _ h => h) (Or.inl ⟨by kernel_rfl, by (intro wz hSz; go_simp; try with_reducible rfl)⟩) hS0 ?_
  go_simp
  refine wpAnyH_take (i := 1) (v := ?_) rfl (by kernel_rfl) (by kernel_rfl) (by kernel_rfl) (fun _ _ _ h => h) (Or.inl ⟨by kernel_rfl, by (intro wz hSz; go_simp; try with_reducible rfl)⟩) hS0 ?_
  go_simp
  refine wpAnyH_take (i := 2) (v := ?_) rfl (by kernel_rfl) (by kernel_rfl) (by kernel_rfl) (fun _ _ _ h => h) (Or.inl ⟨by kernel_rfl, by (intro wz hSz; go_simp; try with_reducible rfl)⟩) hS0 ?_
  go_simp
  refine wpAnyH_take (i := 3) (v := ?_) rfl (by kernel_rfl) (by kernel_rfl) (by kernel_rfl) (fun _ _ _ h => h) (Or.inl ⟨by kernel_rfl, by (intro wz hSz; go_simp; try with_reducible rfl)⟩) hS0 ?_
  go_simp
  refine wpAnyH_take (i := 4) (v := ?_) rfl (by kernel_rfl) (by kernel_rfl) (by kernel_rfl) (fun _ _ _ h => h) (Or.inl ⟨by kernel_rfl, by (intro wz hSz; go_simp; try with_reducible rfl)⟩) hS0 ?_
  go_simp
  refine wpAnyH_take (i := 5) (v := ?_) rfl (by kernel_rfl) (by kernel_rfl) (by kernel_rfl) (fun _ _ _ h => h) (Or.inl ⟨by kernel_rfl, by (intro wz hSz; have c0_0 := cell_of_row _ _ 0 _ _ _ hSz.1; have c0_1 := cell_of_row _ _ 1 _ _ _ hSz.1; have c0_2 := cell_of_row _ _ 2 _ _ _ hSz.1; have c0_3 := cell_of_row _ _ 3 _ _ _ hSz.1; have c0_4 := cell_of_row _ _ 4 _ _ _ hSz.1; have c0_5 := cell_of_row _ _ 5 _ _ _ hSz.1; have c0_6 := cell_of_row _ _ 6 _ _ _ hSz.1; have c0_7 := cell_of_row _ _ 7 _ _ _ hSz.1; have c1_0 := cell_of_row _ _ 0 _ _ _ hSz.2; have c1_1 := cell_of_row _ _ 1 _ _ _ hSz.2; have c1_2 := cell_of_row _ _ 2 _ _ _ hSz.2; have c1_3 := cell_of_row _ _ 3 _ _ _ hSz.2; have c1_4 := cell_of_row _ _ 4 _ _ _ hSz.2; have c1_5 := cell_of_row _ _ 5 _ _ _ hSz.2; have c1_6 := cell_of_row _ _ 6 _ _ _ hSz.2; have c1_7 := cell_of_row _ _ 7 _ _ _ hSz.2; simp at c0_0 c0_1 c0_2 c0_3 c0_4 c0_5 c0_6 c0_7 c1_0 c1_1 c1_2 c1_3 c1_4 c1_5 c1_6 c1_7; go_simp; try with_reducible rfl)⟩) hS0 ?_
  go_simp
  refine wpAnyH_take (i := 6) (v := ?_) rfl (by kernel_rfl) (by kernel_rfl) (by kernel_rfl) (fun _ _ _ h => h) (Or.inl ⟨by kernel_rfl, by (intro wz hSz; go_simp; try with_reducible rfl)⟩) hS0 ?_
  go_simp
  refine wpAnyH_take (i := 7) (v := ?_) rfl (by kernel_rfl) (by kernel_rfl) (by kernel_rfl) (fun _ _ _ h => h) (Or.inl ⟨by kernel_rfl, by (intro wz hSz; go_simp; try with_reducible rfl)⟩) hS0 ?_
  go_simp
  refine wpAnyH_take (i := 8) (v := ?_) rfl (by kernel_rfl) (by kernel_rfl) (by kernel_rfl) (fun _ _ _ h => h) (Or.inl ⟨by kernel_rfl, by (intro wz hSz; go_simp; try with_reducible rfl)⟩) hS0 ?_
  go_simp
  refine wpAnyH_take (i := 9) (v := ?_) rfl (by kernel_rfl) (by kernel_rfl) (by kernel_rfl) (fun _ _ _ h => h) (Or.inl ⟨by kernel_rfl, by (intro wz hSz; go_simp; try with_reducible rfl)⟩) hS0 ?_
  go_simp
  refine wpAnyH_take (i := 10) (v := undef) rfl (by kernel_rfl) (by kernel_rfl) (by kernel_rfl) (fun _ _ _ h => h) (Or.inr ⟨by kernel_rfl, rfl⟩) hS0 ?_
  go_simp
  refine wpAnyH_take (i := 11) (v := undef) rfl (by kernel_rfl) (by kernel_rfl) (by kernel_rfl) (fun _ _ _ h => h) (Or.inr ⟨by kernel_rfl, rfl⟩) hS0 ?_
  go_simp
  refine wpAnyH_take (i := 12) (v := undef) rfl (by kernel_rfl) (by kernel_rfl) (by kernel_rfl) (fun _ _ _ h => h) (Or.inr ⟨by kernel_rfl, rfl⟩) hS0 ?_
  go_simp
  refine wpAnyH_take (i := 13) (v := undef) rfl (by kernel_rfl) (by kernel_rfl) (by kernel_rfl) (fun _ _ _ h => h) (Or.inr ⟨by kernel_rfl, rfl⟩) hS0 ?_
  go_simp
  refine wpAnyH_take (i := 14) (v := undef) rfl (by kernel_rfl) (by kernel_rfl) (by kernel_rfl) (fun _ _ _ h => h) (Or.inr ⟨by kernel_rfl, rfl⟩) hS0 ?_
  go_simp
  refine wpAnyH_take (i := 15) (v := undef) rfl (by kernel_rfl) (by kernel_rfl) (by kernel_rfl) (fun _ _ _ h => h) (Or.inr ⟨by kernel_rfl, rfl⟩) hS0 ?_
  go_simp
  refine wpAnyH_take (i := 16) (v := undef) rfl (by kernel_rfl) (by kernel_rfl) (by kernel_rfl) (fun _ _ _ h => h) (Or.inr ⟨by kernel_rfl, rfl⟩) hS0 ?_
  go_simp
  refine wpAnyH_take (i := 17) (v := undef) rfl (by kernel_rfl) (by kernel_rfl) (by kernel_rfl) (fun _ _ _ h => h) (Or.inr ⟨by kernel_rfl, rfl⟩) hS0 ?_
  go_simp
  refine wpAnyH_take (i := 18) (v := undef) rfl (by kernel_rfl) (by kernel_rfl) (by kernel_rfl) (fun _ _ _ h => h) (Or.inr ⟨by kernel_rfl, rfl⟩) hS0 ?_
  go_simp
  refine wpAnyH_take (i := 19) (v := undef) rfl (by kernel_rfl) (by kernel_rfl) (by kernel_rfl) (fun _ _ _ h => h) (Or.inr ⟨by kernel_rfl, rfl⟩) hS0 ?_
  go_simp
  refine wpAnyH_take (i := 20) (v := undef) rfl (by kernel_rfl) (by kernel_rfl) (by kernel_rfl) (fun _ _ _ h => h) (Or.inr ⟨by kernel_rfl, rfl⟩) hS0 ?_
  go_simp
  refine wpAnyH_take (i := 21) (v := ?_) rfl (by kernel_rfl) (by kernel_rfl) (by kernel_rfl) (fun _ _ _ h => h) (Or.inl ⟨by kernel_rfl, by (intro wz hSz; go_simp; try with_reducible rfl)⟩) hS0 ?_
  go_simp
  refine wpAnyH_done (by kernel_rfl) ?_ _
  go_wp2
  go_ret
  exact ⟨rfl, HU1.out⟩

set_option maxHeartbeats 4000000 in
set_option maxRecDepth 100000 in
theorem dpast_shape (W H W2 H2 : Int) (al ad an ab al2 ad2 an2 ab2 af2 : Option Addr) (fb fo xb xo xb2 xo2 cl cd cn cb cx cf nl nd nn nb ns nf cl2 cd2 cn2 cb2 cx2 cf2 nl2 nd2 nn2 nb2 ns2 nf2 : Nat) (w : World) (i : Nat) (hi : i < nf) (hsn : ns = nf) (hnn : nn = nf) (k : Nat) (eF : w.cell? ⟨fb, fo + i, none⟩ = some (.int .i64 (k : Int))) (hk : k < ns2) (hn2 : nn2 = ns2) (s1 s2 : Int) (eS : w.cell? ⟨xb, xo + i, none⟩ = some (.int .i64 s1)) (eS2 : w.cell? ⟨xb2, xo2 + k, none⟩ = some (.int .i64 s2)) (hs : ¬ s1 = s2) : Calls Try.prog 28 #[.agg #[.int .i64 W, .int .i64 H, .slice al nl cl, .slice ad nd cd, .slice an nn cn, .slice ab nb cb, .slice (some ⟨xb, xo, none⟩) ns cx, .slice (some ⟨fb, fo, none⟩) nf cf], .agg #[.int .i64 W2, .int .i64 H2, .slice al2 nl2 cl2, .slice ad2 nd2 cd2, .slice an2 nn2 cn2, .slice ab2 nb2 cb2, .slice (some ⟨xb2, xo2, none⟩) ns2 cx2, .slice af2 nf2 cf2], .int .i64 i] w fun e' w' => e' = .returned (.int .i64 (-1)) ∧ Below w.heap.size w w' := by
  have hi' : (i : Int) < nf := by omega
  have hi2 : (i : Int) < ns := by omega
  have hi3 : (i : Int) < nn := by omega
  have d0 : decide ((k : Int) < 0) = false := decide_eq_false (by omega)
  have d1 : decide (ns2 ≤ k) = false := decide_eq_false (by omega)
  have hk2 : (k : Int) < ns2 := by omega
  have hk3 : (k : Int) < nn2 := by omega
  have d2 : (s2 != s1) = true := by simpa using (fun e => hs e.symm : ¬ s2 = s1)
  clear hsn hnn hs hn2
  go_enter Try.func28, Try.ntmps28
  go_upto_region 1 with fail
  have hR := Au.rows2 w (.cells #[.int .i64 W, .int .i64 H, .slice al nl cl, .slice ad nd cd, .slice an nn cn, .slice ab nb cb, .slice (some ⟨xb, xo, none⟩) ns cx, .slice (some ⟨fb, fo, none⟩) nf cf] 29) (.cells #[.int .i64 W2, .int .i64 H2, .slice al2 nl2 cl2, .slice ad2 nd2 cd2, .slice an2 nn2 cn2, .slice ab2 nb2 cb2, .slice (some ⟨xb2, xo2, none⟩) ns2 cx2, .slice af2 nf2 cf2] 29)
  have HUx := Ve.below_n2 w (.cells #[.int .i64 W, .int .i64 H, .slice al nl cl, .slice ad nd cd, .slice an nn cn, .slice ab nb cb, .slice (some ⟨xb, xo, none⟩) ns cx, .slice (some ⟨fb, fo, none⟩) nf cf] 29) (.cells #[.int .i64 W2, .int .i64 H2, .slice al2 nl2 cl2, .slice ad2 nd2 cd2, .slice an2 nn2 cn2, .slice ab2 nb2 cb2, .slice (some ⟨xb2, xo2, none⟩) ns2 cx2, .slice af2 nf2 cf2] 29)
  obtain ⟨y0, hy0⟩ : ∃ y0, (w.alloc (.cells #[.int .i64 W, .int .i64 H, .slice al nl cl, .slice ad nd cd, .slice an nn cn, .slice ab nb cb, .slice (some ⟨xb, xo, none⟩) ns cx, .slice (some ⟨fb, fo, none⟩) nf cf] 29)).alloc (.cells #[.int .i64 W2, .int .i64 H2, .slice al2 nl2 cl2, .slice ad2 nd2 cd2, .slice an2 nn2 cn2, .slice ab2 nb2 cb2, .slice (some ⟨xb2, xo2, none⟩) ns2 cx2, .slice af2 nf2 cf2] 29) = y0 := ⟨_, rfl⟩
  rw [hy0] at hR HUx ⊢
  clear hy0
  have HU0 := Lib.hid HUx
  clear HUx
  obtain ⟨hr0_0, hr0_1⟩ := hR
  replace eF := (HU0.out.cell (p := ⟨fb, fo + i, none⟩) (World.block_lt_of_cell? _ _ eF)).trans eF
  replace eS := (HU0.out.cell (p := ⟨xb, xo + i, none⟩) (World.block_lt_of_cell? _ _ eS)).trans eS
  replace eS2 := (HU0.out.cell (p := ⟨xb2, xo2 + k, none⟩) (World.block_lt_of_cell? _ _ eS2)).trans eS2
  have c0_0 := cell_of_row _ _ 0 _ _ _ hr0_0
  have c0_1 := cell_of_row _ _ 1 _ _ _ hr0_0
  have c0_2 := cell_of_row _ _ 2 _ _ _ hr0_0
  have c0_3 := cell_of_row _ _ 3 _ _ _ hr0_0
  have c0_4 := cell_of_row _ _ 4 _ _ _ hr0_0
  have c0_5 := cell_of_row _ _ 5 _ _ _ hr0_0
  have c0_6 := cell_of_row _ _ 6 _ _ _ hr0_0
  have c0_7 := cell_of_row _ _ 7 _ _ _ hr0_0
  have c1_0 := cell_of_row _ _ 0 _ _ _ hr0_1
  have c1_1 := cell_of_row _ _ 1 _ _ _ hr0_1
  have c1_2 := cell_of_row _ _ 2 _ _ _ hr0_1
  have c1_3 := cell_of_row _ _ 3 _ _ _ hr0_1
  have c1_4 := cell_of_row _ _ 4 _ _ _ hr0_1
  have c1_5 := cell_of_row _ _ 5 _ _ _ hr0_1
  have c1_6 := cell_of_row _ _ 6 _ _ _ hr0_1
  have c1_7 := cell_of_row _ _ 7 _ _ _ hr0_1
  simp at c0_0 c0_1 c0_2 c0_3 c0_4 c0_5 c0_6 c0_7 c1_0 c1_1 c1_2 c1_3 c1_4 c1_5 c1_6 c1_7
  go_upto_region 2 with fail
  clear c0_0 c0_1 c0_2 c0_3 c0_4 c0_5 c0_6 c0_7 c1_0 c1_1 c1_2 c1_3 c1_4 c1_5 c1_6 c1_7
  refine wp_region_held_drew (S := fun y => y.heap[w.heap.size]? = some (.cells #[.int .i64 W, .int .i64 H, .slice al nl cl, .slice ad nd cd, .slice an nn cn, .slice ab nb cb, .slice (some ⟨xb, xo, none⟩) ns cx, .slice (some ⟨fb, fo, none⟩) nf cf] 29 (0, 0)) ∧ y.heap[w.heap.size + 1]? = some (.cells #[.int .i64 W2, .int .i64 H2, .slice al2 nl2 cl2, .slice ad2 nd2 cd2, .slice an2 nn2 cn2, .slice ab2 nb2 cb2, .slice (some ⟨xb2, xo2, none⟩) ns2 cx2, .slice af2 nf2 cf2] 29 (0, 0)) ∧ y.cell? ⟨xb, xo + i, none⟩ = some (.int .i64 s1) ∧ y.cell? ⟨xb2, xo2 + k, none⟩ = some (.int .i64 s2)) (by kernel_rfl) (⟨hr0_0, hr0_1, eS, eS2⟩) (fun hS0 => ?_)
  obtain ⟨y1, hy1⟩ : ∃ y, y0.drew = y := ⟨_, rfl⟩
  have HU1 := Lib.hid (show Below w.heap.size w y1 by rw [← hy1]; exact HU0.out.drew)
  have hr1_0 : y1.heap[w.heap.size]? = some (.cells #[.int .i64 W, .int .i64 H, .slice al nl cl, .slice ad nd cd, .slice an nn cn, .slice ab nb cb, .slice (some ⟨xb, xo, none⟩) ns cx, .slice (some ⟨fb, fo, none⟩) nf cf] 29 (0, 0)) := by rw [← hy1]; exact hr0_0
  have hr1_1 : y1.heap[w.heap.size + 1]? = some (.cells #[.int .i64 W2, .int .i64 H2, .slice al2 nl2 cl2, .slice ad2 nd2 cd2, .slice an2 nn2 cn2, .slice ab2 nb2 cb2, .slice (some ⟨xb2, xo2, none⟩) ns2 cx2, .slice af2 nf2 cf2] 29 (0, 0)) := by rw [← hy1]; exact hr0_1
  rw [hy1] at hS0 ⊢
  clear hy1
  refine wpAnyH_take (i := 0) (v := ?_) rfl (by kernel_rfl) (by kernel_rfl) (by kernel_rfl) (fun _ _ _ h => h) (Or.inl ⟨by kernel_rfl, by (intro wz hSz; go_simp; try with_reducible rfl)⟩) hS0 ?_
  go_simp
  refine wpAnyH_take (i := 1) (v := ?_) rfl (by kernel_rfl) (by kernel_rfl) (by kernel_rfl) (fun _ _ _ h => h) (Or.inl ⟨by kernel_rfl, by (intro wz hSz; go_simp; try with_reducible rfl)⟩) hS0 ?_
  go_simp
  refine wpAnyH_take (i := 2) (v := ?_) rfl (by kernel_rfl) (by kernel_rfl) (by kernel_rfl) (fun _ _ _ h => h) (Or.inl ⟨by kernel_rfl, by (intro wz hSz; go_simp; try with_reducible rfl)⟩) hS0 ?_
  go_simp
  refine wpAnyH_take (i := 3) (v := ?_) rfl (by kernel_rfl) (by kernel_rfl) (by kernel_rfl) (fun _ _ _ h => h) (Or.inl ⟨by kernel_rfl, by (intro wz hSz; go_simp; try with_reducible rfl)⟩) hS0 ?_
  go_simp
  refine wpAnyH_take (i := 4) (v := ?_) rfl (by kernel_rfl) (by kernel_rfl) (by kernel_rfl) (fun _ _ _ h => h) (Or.inl ⟨by kernel_rfl, by (intro wz hSz; go_simp; try with_reducible rfl)⟩) hS0 ?_
  go_simp
  refine wpAnyH_take (i := 5) (v := ?_) rfl (by kernel_rfl) (by kernel_rfl) (by kernel_rfl) (fun _ _ _ h => h) (Or.inl ⟨by kernel_rfl, by (intro wz hSz; have c0_0 := cell_of_row _ _ 0 _ _ _ hSz.1; have c0_1 := cell_of_row _ _ 1 _ _ _ hSz.1; have c0_2 := cell_of_row _ _ 2 _ _ _ hSz.1; have c0_3 := cell_of_row _ _ 3 _ _ _ hSz.1; have c0_4 := cell_of_row _ _ 4 _ _ _ hSz.1; have c0_5 := cell_of_row _ _ 5 _ _ _ hSz.1; have c0_6 := cell_of_row _ _ 6 _ _ _ hSz.1; have c0_7 := cell_of_row _ _ 7 _ _ _ hSz.1; have c1_0 := cell_of_row _ _ 0 _ _ _ hSz.2.1; have c1_1 := cell_of_row _ _ 1 _ _ _ hSz.2.1; have c1_2 := cell_of_row _ _ 2 _ _ _ hSz.2.1; have c1_3 := cell_of_row _ _ 3 _ _ _ hSz.2.1; have c1_4 := cell_of_row _ _ 4 _ _ _ hSz.2.1; have c1_5 := cell_of_row _ _ 5 _ _ _ hSz.2.1; have c1_6 := cell_of_row _ _ 6 _ _ _ hSz.2.1; have c1_7 := cell_of_row _ _ 7 _ _ _ hSz.2.1; simp at c0_0 c0_1 c0_2 c0_3 c0_4 c0_5 c0_6 c0_7 c1_0 c1_1 c1_2 c1_3 c1_4 c1_5 c1_6 c1_7; have eSz := hSz.2.2.1; have eS2z := hSz.2.2.2; go_simp; try with_reducible rfl)⟩) hS0 ?_
  go_simp
  refine wpAnyH_take (i := 6) (v := ?_) rfl (by kernel_rfl) (by kernel_rfl) (by kernel_rfl) (fun _ _ _ h => h) (Or.inl ⟨by kernel_rfl, by (intro wz hSz; go_simp; try with_reducible rfl)⟩) hS0 ?_
  go_simp
  refine wpAnyH_take (i := 7) (v := ?_) rfl (by kernel_rfl) (by kernel_rfl) (by kernel_rfl) (fun _ _ _ h => h) (Or.inl ⟨by kernel_rfl, by (intro wz hSz; go_simp; try with_reducible rfl)⟩) hS0 ?_
  go_simp
  refine wpAnyH_take (i := 8) (v := ?_) rfl (by kernel_rfl) (by kernel_rfl) (by kernel_rfl) (fun _ _ _ h => h) (Or.inl ⟨by kernel_rfl, by (intro wz hSz; go_simp; try with_reducible rfl)⟩) hS0 ?_
  go_simp
  refine wpAnyH_take (i := 9) (v := ?_) rfl (by kernel_rfl) (by kernel_rfl) (by kernel_rfl) (fun _ _ _ h => h) (Or.inl ⟨by kernel_rfl, by (intro wz hSz; go_simp; try with_reducible rfl)⟩) hS0 ?_
  go_simp
  refine wpAnyH_take (i := 10) (v := ?_) rfl (by kernel_rfl) (by kernel_rfl) (by kernel_rfl) (fun _ _ _ h => h) (Or.inl ⟨by kernel_rfl, by (intro wz hSz; go_simp; try with_reducible rfl)⟩) hS0 ?_
  go_simp
  refine wpAnyH_take (i := 11) (v := ?_) rfl (by kernel_rfl) (by kernel_rfl) (by kernel_rfl) (fun _ _ _ h => h) (Or.inl ⟨by kernel_rfl, by (intro wz hSz; have c0_0 := cell_of_row _ _ 0 _ _ _ hSz.1; have c0_1 := cell_of_row _ _ 1 _ _ _ hSz.1; have c0_2 := cell_of_row _ _ 2 _ _ _ hSz.1; have c0_3 := cell_of_row _ _ 3 _ _ _ hSz.1; have c0_4 := cell_of_row _ _ 4 _ _ _ hSz.1; have c0_5 := cell_of_row _ _ 5 _ _ _ hSz.1; have c0_6 := cell_of_row _ _ 6 _ _ _ hSz.1; have c0_7 := cell_of_row _ _ 7 _ _ _ hSz.1; have c1_0 := cell_of_row _ _ 0 _ _ _ hSz.2.1; have c1_1 := cell_of_row _ _ 1 _ _ _ hSz.2.1; have c1_2 := cell_of_row _ _ 2 _ _ _ hSz.2.1; have c1_3 := cell_of_row _ _ 3 _ _ _ hSz.2.1; have c1_4 := cell_of_row _ _ 4 _ _ _ hSz.2.1; have c1_5 := cell_of_row _ _ 5 _ _ _ hSz.2.1; have c1_6 := cell_of_row _ _ 6 _ _ _ hSz.2.1; have c1_7 := cell_of_row _ _ 7 _ _ _ hSz.2.1; simp at c0_0 c0_1 c0_2 c0_3 c0_4 c0_5 c0_6 c0_7 c1_0 c1_1 c1_2 c1_3 c1_4 c1_5 c1_6 c1_7; have eSz := hSz.2.2.1; have eS2z := hSz.2.2.2; go_simp; try with_reducible rfl)⟩) hS0 ?_
  go_simp
  refine wpAnyH_take (i := 12) (v := ?_) rfl (by kernel_rfl) (by kernel_rfl) (by kernel_rfl) (fun _ _ _ h => h) (Or.inl ⟨by kernel_rfl, by (intro wz hSz; go_simp; try with_reducible rfl)⟩) hS0 ?_
  go_simp
  refine wpAnyH_take (i := 13) (v := ?_) rfl (by kernel_rfl) (by kernel_rfl) (by kernel_rfl) (fun _ _ _ h => h) (Or.inl ⟨by kernel_rfl, by (intro wz hSz; go_simp; try with_reducible rfl)⟩) hS0 ?_
  go_simp
  refine wpAnyH_take (i := 14) (v := ?_) rfl (by kernel_rfl) (by kernel_rfl) (by kernel_rfl) (fun _ _ _ h => h) (Or.inl ⟨by kernel_rfl, by (intro wz hSz; have c0_0 := cell_of_row _ _ 0 _ _ _ hSz.1; have c0_1 := cell_of_row _ _ 1 _ _ _ hSz.1; have c0_2 := cell_of_row _ _ 2 _ _ _ hSz.1; have c0_3 := cell_of_row _ _ 3 _ _ _ hSz.1; have c0_4 := cell_of_row _ _ 4 _ _ _ hSz.1; have c0_5 := cell_of_row _ _ 5 _ _ _ hSz.1; have c0_6 := cell_of_row _ _ 6 _ _ _ hSz.1; have c0_7 := cell_of_row _ _ 7 _ _ _ hSz.1; have c1_0 := cell_of_row _ _ 0 _ _ _ hSz.2.1; have c1_1 := cell_of_row _ _ 1 _ _ _ hSz.2.1; have c1_2 := cell_of_row _ _ 2 _ _ _ hSz.2.1; have c1_3 := cell_of_row _ _ 3 _ _ _ hSz.2.1; have c1_4 := cell_of_row _ _ 4 _ _ _ hSz.2.1; have c1_5 := cell_of_row _ _ 5 _ _ _ hSz.2.1; have c1_6 := cell_of_row _ _ 6 _ _ _ hSz.2.1; have c1_7 := cell_of_row _ _ 7 _ _ _ hSz.2.1; simp at c0_0 c0_1 c0_2 c0_3 c0_4 c0_5 c0_6 c0_7 c1_0 c1_1 c1_2 c1_3 c1_4 c1_5 c1_6 c1_7; have eSz := hSz.2.2.1; have eS2z := hSz.2.2.2; go_simp; try with_reducible rfl)⟩) hS0 ?_
  go_simp
  refine wpAnyH_take (i := 15) (v := ?_) rfl (by kernel_rfl) (by kernel_rfl) (by kernel_rfl) (fun _ _ _ h => h) (Or.inl ⟨by kernel_rfl, by (intro wz hSz; go_simp; try with_reducible rfl)⟩) hS0 ?_
  go_simp
  refine wpAnyH_take (i := 16) (v := ?_) rfl (by kernel_rfl) (by kernel_rfl) (by kernel_rfl) (fun _ _ _ h => h) (Or.inl ⟨by kernel_rfl, by (intro wz hSz; have c0_0 := cell_of_row _ _ 0 _ _ _ hSz.1; have c0_1 := cell_of_row _ _ 1 _ _ _ hSz.1; have c0_2 := cell_of_row _ _ 2 _ _ _ hSz.1; have c0_3 := cell_of_row _ _ 3 _ _ _ hSz.1; have c0_4 := cell_of_row _ _ 4 _ _ _ hSz.1; have c0_5 := cell_of_row _ _ 5 _ _ _ hSz.1; have c0_6 := cell_of_row _ _ 6 _ _ _ hSz.1; have c0_7 := cell_of_row _ _ 7 _ _ _ hSz.1; have c1_0 := cell_of_row _ _ 0 _ _ _ hSz.2.1; have c1_1 := cell_of_row _ _ 1 _ _ _ hSz.2.1; have c1_2 := cell_of_row _ _ 2 _ _ _ hSz.2.1; have c1_3 := cell_of_row _ _ 3 _ _ _ hSz.2.1; have c1_4 := cell_of_row _ _ 4 _ _ _ hSz.2.1; have c1_5 := cell_of_row _ _ 5 _ _ _ hSz.2.1; have c1_6 := cell_of_row _ _ 6 _ _ _ hSz.2.1; have c1_7 := cell_of_row _ _ 7 _ _ _ hSz.2.1; simp at c0_0 c0_1 c0_2 c0_3 c0_4 c0_5 c0_6 c0_7 c1_0 c1_1 c1_2 c1_3 c1_4 c1_5 c1_6 c1_7; have eSz := hSz.2.2.1; have eS2z := hSz.2.2.2; go_simp; try with_reducible rfl)⟩) hS0 ?_
  go_simp
  refine wpAnyH_take (i := 17) (v := ?_) rfl (by kernel_rfl) (by kernel_rfl) (by kernel_rfl) (fun _ _ _ h => h) (Or.inl ⟨by kernel_rfl, by (intro wz hSz; go_simp; try with_reducible rfl)⟩) hS0 ?_
  go_simp
  refine wpAnyH_take (i := 18) (v := ?_) rfl (by kernel_rfl) (by kernel_rfl) (by kernel_rfl) (fun _ _ _ h => h) (Or.inl ⟨by kernel_rfl, by (intro wz hSz; go_simp; try with_reducible rfl)⟩) hS0 ?_
  go_simp
  refine wpAnyH_take (i := 19) (v := ?_) rfl (by kernel_rfl) (by kernel_rfl) (by kernel_rfl) (fun _ _ _ h => h) (Or.inl ⟨by kernel_rfl, by (intro wz hSz; have c0_0 := cell_of_row _ _ 0 _ _ _ hSz.1; have c0_1 := cell_of_row _ _ 1 _ _ _ hSz.1; have c0_2 := cell_of_row _ _ 2 _ _ _ hSz.1; have c0_3 := cell_of_row _ _ 3 _ _ _ hSz.1; have c0_4 := cell_of_row _ _ 4 _ _ _ hSz.1; have c0_5 := cell_of_row _ _ 5 _ _ _ hSz.1; have c0_6 := cell_of_row _ _ 6 _ _ _ hSz.1; have c0_7 := cell_of_row _ _ 7 _ _ _ hSz.1; have c1_0 := cell_of_row _ _ 0 _ _ _ hSz.2.1; have c1_1 := cell_of_row _ _ 1 _ _ _ hSz.2.1; have c1_2 := cell_of_row _ _ 2 _ _ _ hSz.2.1; have c1_3 := cell_of_row _ _ 3 _ _ _ hSz.2.1; have c1_4 := cell_of_row _ _ 4 _ _ _ hSz.2.1; have c1_5 := cell_of_row _ _ 5 _ _ _ hSz.2.1; have c1_6 := cell_of_row _ _ 6 _ _ _ hSz.2.1; have c1_7 := cell_of_row _ _ 7 _ _ _ hSz.2.1; simp at c0_0 c0_1 c0_2 c0_3 c0_4 c0_5 c0_6 c0_7 c1_0 c1_1 c1_2 c1_3 c1_4 c1_5 c1_6 c1_7; have eSz := hSz.2.2.1; have eS2z := hSz.2.2.2; go_simp; try with_reducible rfl)⟩) hS0 ?_
  go_simp
  refine wpAnyH_take (i := 20) (v := ?_) rfl (by kernel_rfl) (by kernel_rfl) (by kernel_rfl) (fun _ _ _ h => h) (Or.inl ⟨by kernel_rfl, by (intro wz hSz; go_simp; try with_reducible rfl)⟩) hS0 ?_
  go_simp
  refine wpAnyH_take (i := 21) (v := ?_) rfl (by kernel_rfl) (by kernel_rfl) (by kernel_rfl) (fun _ _ _ h => h) (Or.inl ⟨by kernel_rfl, by (intro wz hSz; go_simp; try with_reducible rfl)⟩) hS0 ?_
  go_simp
  refine wpAnyH_done (by kernel_rfl) ?_ _
  go_wp2
  go_ret
  exact ⟨rfl, HU1.out⟩

set_option maxHeartbeats 4000000 in
set_option maxRecDepth 100000 in
theorem dpast_dot (W H W2 H2 : Int) (al ad ab al2 ad2 ab2 af2 : Option Addr) (fb fo xb xo xb2 xo2 vb vo vb2 vo2 cl cd cn cb cx cf nl nd nn nb ns nf cl2 cd2 cn2 cb2 cx2 cf2 nl2 nd2 nn2 nb2 ns2 nf2 : Nat) (w : World) (i : Nat) (hi : i < nf) (hsn : ns = nf) (hnn : nn = nf) (k : Nat) (eF : w.cell? ⟨fb, fo + i, none⟩ = some (.int .i64 (k : Int))) (hk : k < ns2) (hn2 : nn2 = ns2) (s1 s2 : Int) (eS : w.cell? ⟨xb, xo + i, none⟩ = some (.int .i64 s1)) (eS2 : w.cell? ⟨xb2, xo2 + k, none⟩ = some (.int .i64 s2)) (hs : s1 = s2) (a1 a2 a3 : Int) (ea1 : w.cell? ⟨vb, vo + i * 3, none⟩ = some (.int .i64 a1)) (ea2 : w.cell? ⟨vb, vo + i * 3 + 1, none⟩ = some (.int .i64 a2)) (ea3 : w.cell? ⟨vb, vo + i * 3 + 2, none⟩ = some (.int .i64 a3)) (b1 b2 b3 : Int) (eb1 : w.cell? ⟨vb2, vo2 + k * 3, none⟩ = some (.int .i64 b1)) (eb2 : w.cell? ⟨vb2, vo2 + k * 3 + 1, none⟩ = some (.int .i64 b2)) (eb3 : w.cell? ⟨vb2, vo2 + k * 3 + 2, none⟩ = some (.int .i64 b3)) (z : Int) (hz : z < 57344) (hT : ∀ W : World, Calls Try.prog 40 #[.agg #[.int .i64 b1, .int .i64 b2, .int .i64 b3], .agg #[.int .i64 a1, .int .i64 a2, .int .i64 a3]] W fun e' w' => e' = .returned (.int .i64 z) ∧ Below W.heap.size W w') : Calls Try.prog 28 #[.agg #[.int .i64 W, .int .i64 H, .slice al nl cl, .slice ad nd cd, .slice (some ⟨vb, vo, none⟩) nn cn, .slice ab nb cb, .slice (some ⟨xb, xo, none⟩) ns cx, .slice (some ⟨fb, fo, none⟩) nf cf], .agg #[.int .i64 W2, .int .i64 H2, .slice al2 nl2 cl2, .slice ad2 nd2 cd2, .slice (some ⟨vb2, vo2, none⟩) nn2 cn2, .slice ab2 nb2 cb2, .slice (some ⟨xb2, xo2, none⟩) ns2 cx2, .slice af2 nf2 cf2], .int .i64 i] w fun e' w' => e' = .returned (.int .i64 (-1)) ∧ Below w.heap.size w w' := by
  have hi' : (i : Int) < nf := by omega
  have hi2 : (i : Int) < ns := by omega
  have hi3 : (i : Int) < nn := by omega
  have d0 : decide ((k : Int) < 0) = false := decide_eq_false (by omega)
  have d1 : decide (ns2 ≤ k) = false := decide_eq_false (by omega)
  have hk2 : (k : Int) < ns2 := by omega
  have hk3 : (k : Int) < nn2 := by omega
  have d2 : (s2 != s1) = false := by simpa using hs.symm
  have d3 : decide (z < 57344) = true := decide_eq_true hz
  clear hsn hnn hs hn2 hz
  go_enter Try.func28, Try.ntmps28
  go_upto_region 1 with fail
  have hR := Au.rows2 w (.cells #[.int .i64 W, .int .i64 H, .slice al nl cl, .slice ad nd cd, .slice (some ⟨vb, vo, none⟩) nn cn, .slice ab nb cb, .slice (some ⟨xb, xo, none⟩) ns cx, .slice (some ⟨fb, fo, none⟩) nf cf] 29) (.cells #[.int .i64 W2, .int .i64 H2, .slice al2 nl2 cl2, .slice ad2 nd2 cd2, .slice (some ⟨vb2, vo2, none⟩) nn2 cn2, .slice ab2 nb2 cb2, .slice (some ⟨xb2, xo2, none⟩) ns2 cx2, .slice af2 nf2 cf2] 29)
  have HUx := Ve.below_n2 w (.cells #[.int .i64 W, .int .i64 H, .slice al nl cl, .slice ad nd cd, .slice (some ⟨vb, vo, none⟩) nn cn, .slice ab nb cb, .slice (some ⟨xb, xo, none⟩) ns cx, .slice (some ⟨fb, fo, none⟩) nf cf] 29) (.cells #[.int .i64 W2, .int .i64 H2, .slice al2 nl2 cl2, .slice ad2 nd2 cd2, .slice (some ⟨vb2, vo2, none⟩) nn2 cn2, .slice ab2 nb2 cb2, .slice (some ⟨xb2, xo2, none⟩) ns2 cx2, .slice af2 nf2 cf2] 29)
  obtain ⟨y0, hy0⟩ : ∃ y0, (w.alloc (.cells #[.int .i64 W, .int .i64 H, .slice al nl cl, .slice ad nd cd, .slice (some ⟨vb, vo, none⟩) nn cn, .slice ab nb cb, .slice (some ⟨xb, xo, none⟩) ns cx, .slice (some ⟨fb, fo, none⟩) nf cf] 29)).alloc (.cells #[.int .i64 W2, .int .i64 H2, .slice al2 nl2 cl2, .slice ad2 nd2 cd2, .slice (some ⟨vb2, vo2, none⟩) nn2 cn2, .slice ab2 nb2 cb2, .slice (some ⟨xb2, xo2, none⟩) ns2 cx2, .slice af2 nf2 cf2] 29) = y0 := ⟨_, rfl⟩
  rw [hy0] at hR HUx ⊢
  clear hy0
  have HU0 := Lib.hid HUx
  clear HUx
  obtain ⟨hr0_0, hr0_1⟩ := hR
  replace eF := (HU0.out.cell (p := ⟨fb, fo + i, none⟩) (World.block_lt_of_cell? _ _ eF)).trans eF
  replace eS := (HU0.out.cell (p := ⟨xb, xo + i, none⟩) (World.block_lt_of_cell? _ _ eS)).trans eS
  replace eS2 := (HU0.out.cell (p := ⟨xb2, xo2 + k, none⟩) (World.block_lt_of_cell? _ _ eS2)).trans eS2
  replace ea1 := (HU0.out.cell (p := ⟨vb, vo + i * 3, none⟩) (World.block_lt_of_cell? _ _ ea1)).trans ea1
  replace ea2 := (HU0.out.cell (p := ⟨vb, vo + i * 3 + 1, none⟩) (World.block_lt_of_cell? _ _ ea2)).trans ea2
  replace ea3 := (HU0.out.cell (p := ⟨vb, vo + i * 3 + 2, none⟩) (World.block_lt_of_cell? _ _ ea3)).trans ea3
  replace eb1 := (HU0.out.cell (p := ⟨vb2, vo2 + k * 3, none⟩) (World.block_lt_of_cell? _ _ eb1)).trans eb1
  replace eb2 := (HU0.out.cell (p := ⟨vb2, vo2 + k * 3 + 1, none⟩) (World.block_lt_of_cell? _ _ eb2)).trans eb2
  replace eb3 := (HU0.out.cell (p := ⟨vb2, vo2 + k * 3 + 2, none⟩) (World.block_lt_of_cell? _ _ eb3)).trans eb3
  have c0_0 := cell_of_row _ _ 0 _ _ _ hr0_0
  have c0_1 := cell_of_row _ _ 1 _ _ _ hr0_0
  have c0_2 := cell_of_row _ _ 2 _ _ _ hr0_0
  have c0_3 := cell_of_row _ _ 3 _ _ _ hr0_0
  have c0_4 := cell_of_row _ _ 4 _ _ _ hr0_0
  have c0_5 := cell_of_row _ _ 5 _ _ _ hr0_0
  have c0_6 := cell_of_row _ _ 6 _ _ _ hr0_0
  have c0_7 := cell_of_row _ _ 7 _ _ _ hr0_0
  have c1_0 := cell_of_row _ _ 0 _ _ _ hr0_1
  have c1_1 := cell_of_row _ _ 1 _ _ _ hr0_1
  have c1_2 := cell_of_row _ _ 2 _ _ _ hr0_1
  have c1_3 := cell_of_row _ _ 3 _ _ _ hr0_1
  have c1_4 := cell_of_row _ _ 4 _ _ _ hr0_1
  have c1_5 := cell_of_row _ _ 5 _ _ _ hr0_1
  have c1_6 := cell_of_row _ _ 6 _ _ _ hr0_1
  have c1_7 := cell_of_row _ _ 7 _ _ _ hr0_1
  simp at c0_0 c0_1 c0_2 c0_3 c0_4 c0_5 c0_6 c0_7 c1_0 c1_1 c1_2 c1_3 c1_4 c1_5 c1_6 c1_7
  go_upto_region 2 with fail
  clear c0_0 c0_1 c0_2 c0_3 c0_4 c0_5 c0_6 c0_7 c1_0 c1_1 c1_2 c1_3 c1_4 c1_5 c1_6 c1_7
  refine wp_region_held_drew (S := fun y => y.heap[w.heap.size]? = some (.cells #[.int .i64 W, .int .i64 H, .slice al nl cl, .slice ad nd cd, .slice (some ⟨vb, vo, none⟩) nn cn, .slice ab nb cb, .slice (some ⟨xb, xo, none⟩) ns cx, .slice (some ⟨fb, fo, none⟩) nf cf] 29 (0, 0)) ∧ y.heap[w.heap.size + 1]? = some (.cells #[.int .i64 W2, .int .i64 H2, .slice al2 nl2 cl2, .slice ad2 nd2 cd2, .slice (some ⟨vb2, vo2, none⟩) nn2 cn2, .slice ab2 nb2 cb2, .slice (some ⟨xb2, xo2, none⟩) ns2 cx2, .slice af2 nf2 cf2] 29 (0, 0)) ∧ y.cell? ⟨xb, xo + i, none⟩ = some (.int .i64 s1) ∧ y.cell? ⟨xb2, xo2 + k, none⟩ = some (.int .i64 s2) ∧ y.cell? ⟨vb, vo + i * 3, none⟩ = some (.int .i64 a1) ∧ y.cell? ⟨vb, vo + i * 3 + 1, none⟩ = some (.int .i64 a2) ∧ y.cell? ⟨vb, vo + i * 3 + 2, none⟩ = some (.int .i64 a3) ∧ y.cell? ⟨vb2, vo2 + k * 3, none⟩ = some (.int .i64 b1) ∧ y.cell? ⟨vb2, vo2 + k * 3 + 1, none⟩ = some (.int .i64 b2) ∧ y.cell? ⟨vb2, vo2 + k * 3 + 2, none⟩ = some (.int .i64 b3)) (by kernel_rfl) (⟨hr0_0, hr0_1, eS, eS2, ea1, ea2, ea3, eb1, eb2, eb3⟩) (fun hS0 => ?_)
  obtain ⟨y1, hy1⟩ : ∃ y, y0.drew = y := ⟨_, rfl⟩
  have HU1 := Lib.hid (show Below w.heap.size w y1 by rw [← hy1]; exact HU0.out.drew)
  have hr1_0 : y1.heap[w.heap.size]? = some (.cells #[.int .i64 W, .int .i64 H, .slice al nl cl, .slice ad nd cd, .slice (some ⟨vb, vo, none⟩) nn cn, .slice ab nb cb, .slice (some ⟨xb, xo, none⟩) ns cx, .slice (some ⟨fb, fo, none⟩) nf cf] 29 (0, 0)) := by rw [← hy1]; exact hr0_0
  have hr1_1 : y1.heap[w.heap.size + 1]? = some (.cells #[.int .i64 W2, .int .i64 H2, .slice al2 nl2 cl2, .slice ad2 nd2 cd2, .slice (some ⟨vb2, vo2, none⟩) nn2 cn2, .slice ab2 nb2 cb2, .slice (some ⟨xb2, xo2, none⟩) ns2 cx2, .slice af2 nf2 cf2] 29 (0, 0)) := by rw [← hy1]; exact hr0_1
  rw [hy1] at hS0 ⊢
  clear hy1
  refine wpAnyH_take (i := 0) (v := ?_) rfl (by kernel_rfl) (by kernel_rfl) (by kernel_rfl) (fun _ _ _ h => h) (Or.inl ⟨by kernel_rfl, by (intro wz hSz; go_simp; try with_reducible rfl)⟩) hS0 ?_
  go_simp
  refine wpAnyH_take (i := 1) (v := ?_) rfl (by kernel_rfl) (by kernel_rfl) (by kernel_rfl) (fun _ _ _ h => h) (Or.inl ⟨by kernel_rfl, by (intro wz hSz; go_simp; try with_reducible rfl)⟩) hS0 ?_
  go_simp
  refine wpAnyH_take (i := 2) (v := ?_) rfl (by kernel_rfl) (by kernel_rfl) (by kernel_rfl) (fun _ _ _ h => h) (Or.inl ⟨by kernel_rfl, by (intro wz hSz; go_simp; try with_reducible rfl)⟩) hS0 ?_
  go_simp
  refine wpAnyH_take (i := 3) (v := ?_) rfl (by kernel_rfl) (by kernel_rfl) (by kernel_rfl) (fun _ _ _ h => h) (Or.inl ⟨by kernel_rfl, by (intro wz hSz; go_simp; try with_reducible rfl)⟩) hS0 ?_
  go_simp
  refine wpAnyH_take (i := 4) (v := ?_) rfl (by kernel_rfl) (by kernel_rfl) (by kernel_rfl) (fun _ _ _ h => h) (Or.inl ⟨by kernel_rfl, by (intro wz hSz; go_simp; try with_reducible rfl)⟩) hS0 ?_
  go_simp
  refine wpAnyH_take (i := 5) (v := ?_) rfl (by kernel_rfl) (by kernel_rfl) (by kernel_rfl) (fun _ _ _ h => h) (Or.inl ⟨by kernel_rfl, by (intro wz hSz; have c0_0 := cell_of_row _ _ 0 _ _ _ hSz.1; have c0_1 := cell_of_row _ _ 1 _ _ _ hSz.1; have c0_2 := cell_of_row _ _ 2 _ _ _ hSz.1; have c0_3 := cell_of_row _ _ 3 _ _ _ hSz.1; have c0_4 := cell_of_row _ _ 4 _ _ _ hSz.1; have c0_5 := cell_of_row _ _ 5 _ _ _ hSz.1; have c0_6 := cell_of_row _ _ 6 _ _ _ hSz.1; have c0_7 := cell_of_row _ _ 7 _ _ _ hSz.1; have c1_0 := cell_of_row _ _ 0 _ _ _ hSz.2.1; have c1_1 := cell_of_row _ _ 1 _ _ _ hSz.2.1; have c1_2 := cell_of_row _ _ 2 _ _ _ hSz.2.1; have c1_3 := cell_of_row _ _ 3 _ _ _ hSz.2.1; have c1_4 := cell_of_row _ _ 4 _ _ _ hSz.2.1; have c1_5 := cell_of_row _ _ 5 _ _ _ hSz.2.1; have c1_6 := cell_of_row _ _ 6 _ _ _ hSz.2.1; have c1_7 := cell_of_row _ _ 7 _ _ _ hSz.2.1; simp at c0_0 c0_1 c0_2 c0_3 c0_4 c0_5 c0_6 c0_7 c1_0 c1_1 c1_2 c1_3 c1_4 c1_5 c1_6 c1_7; have eSz := hSz.2.2.1; have eS2z := hSz.2.2.2.1; have ea1z := hSz.2.2.2.2.1; have ea2z := hSz.2.2.2.2.2.1; have ea3z := hSz.2.2.2.2.2.2.1; have eb1z := hSz.2.2.2.2.2.2.2.1; have eb2z := hSz.2.2.2.2.2.2.2.2.1; have eb3z := hSz.2.2.2.2.2.2.2.2.2; go_simp; try with_reducible rfl)⟩) hS0 ?_
  go_simp
  refine wpAnyH_take (i := 6) (v := ?_) rfl (by kernel_rfl) (by kernel_rfl) (by kernel_rfl) (fun _ _ _ h => h) (Or.inl ⟨by kernel_rfl, by (intro wz hSz; go_simp; try with_reducible rfl)⟩) hS0 ?_
  go_simp
  refine wpAnyH_take (i := 7) (v := ?_) rfl (by kernel_rfl) (by kernel_rfl) (by kernel_rfl) (fun _ _ _ h => h) (Or.inl ⟨by kernel_rfl, by (intro wz hSz; go_simp; try with_reducible rfl)⟩) hS0 ?_
  go_simp
  refine wpAnyH_take (i := 8) (v := ?_) rfl (by kernel_rfl) (by kernel_rfl) (by kernel_rfl) (fun _ _ _ h => h) (Or.inl ⟨by kernel_rfl, by (intro wz hSz; go_simp; try with_reducible rfl)⟩) hS0 ?_
  go_simp
  refine wpAnyH_take (i := 9) (v := ?_) rfl (by kernel_rfl) (by kernel_rfl) (by kernel_rfl) (fun _ _ _ h => h) (Or.inl ⟨by kernel_rfl, by (intro wz hSz; go_simp; try with_reducible rfl)⟩) hS0 ?_
  go_simp
  refine wpAnyH_take (i := 10) (v := ?_) rfl (by kernel_rfl) (by kernel_rfl) (by kernel_rfl) (fun _ _ _ h => h) (Or.inl ⟨by kernel_rfl, by (intro wz hSz; go_simp; try with_reducible rfl)⟩) hS0 ?_
  go_simp
  refine wpAnyH_take (i := 11) (v := ?_) rfl (by kernel_rfl) (by kernel_rfl) (by kernel_rfl) (fun _ _ _ h => h) (Or.inl ⟨by kernel_rfl, by (intro wz hSz; have c0_0 := cell_of_row _ _ 0 _ _ _ hSz.1; have c0_1 := cell_of_row _ _ 1 _ _ _ hSz.1; have c0_2 := cell_of_row _ _ 2 _ _ _ hSz.1; have c0_3 := cell_of_row _ _ 3 _ _ _ hSz.1; have c0_4 := cell_of_row _ _ 4 _ _ _ hSz.1; have c0_5 := cell_of_row _ _ 5 _ _ _ hSz.1; have c0_6 := cell_of_row _ _ 6 _ _ _ hSz.1; have c0_7 := cell_of_row _ _ 7 _ _ _ hSz.1; have c1_0 := cell_of_row _ _ 0 _ _ _ hSz.2.1; have c1_1 := cell_of_row _ _ 1 _ _ _ hSz.2.1; have c1_2 := cell_of_row _ _ 2 _ _ _ hSz.2.1; have c1_3 := cell_of_row _ _ 3 _ _ _ hSz.2.1; have c1_4 := cell_of_row _ _ 4 _ _ _ hSz.2.1; have c1_5 := cell_of_row _ _ 5 _ _ _ hSz.2.1; have c1_6 := cell_of_row _ _ 6 _ _ _ hSz.2.1; have c1_7 := cell_of_row _ _ 7 _ _ _ hSz.2.1; simp at c0_0 c0_1 c0_2 c0_3 c0_4 c0_5 c0_6 c0_7 c1_0 c1_1 c1_2 c1_3 c1_4 c1_5 c1_6 c1_7; have eSz := hSz.2.2.1; have eS2z := hSz.2.2.2.1; have ea1z := hSz.2.2.2.2.1; have ea2z := hSz.2.2.2.2.2.1; have ea3z := hSz.2.2.2.2.2.2.1; have eb1z := hSz.2.2.2.2.2.2.2.1; have eb2z := hSz.2.2.2.2.2.2.2.2.1; have eb3z := hSz.2.2.2.2.2.2.2.2.2; go_simp; try with_reducible rfl)⟩) hS0 ?_
  go_simp
  refine wpAnyH_take (i := 12) (v := ?_) rfl (by kernel_rfl) (by kernel_rfl) (by kernel_rfl) (fun _ _ _ h => h) (Or.inl ⟨by kernel_rfl, by (intro wz hSz; go_simp; try with_reducible rfl)⟩) hS0 ?_
  go_simp
  refine wpAnyH_take (i := 13) (v := ?_) rfl (by kernel_rfl) (by kernel_rfl) (by kernel_rfl) (fun _ _ _ h => h) (Or.inl ⟨by kernel_rfl, by (intro wz hSz; go_simp; try with_reducible rfl)⟩) hS0 ?_
  go_simp
  refine wpAnyH_take (i := 14) (v := ?_) rfl (by kernel_rfl) (by kernel_rfl) (by kernel_rfl) (fun _ _ _ h => h) (Or.inl ⟨by kernel_rfl, by (intro wz hSz; have c0_0 := cell_of_row _ _ 0 _ _ _ hSz.1; have c0_1 := cell_of_row _ _ 1 _ _ _ hSz.1; have c0_2 := cell_of_row _ _ 2 _ _ _ hSz.1; have c0_3 := cell_of_row _ _ 3 _ _ _ hSz.1; have c0_4 := cell_of_row _ _ 4 _ _ _ hSz.1; have c0_5 := cell_of_row _ _ 5 _ _ _ hSz.1; have c0_6 := cell_of_row _ _ 6 _ _ _ hSz.1; have c0_7 := cell_of_row _ _ 7 _ _ _ hSz.1; have c1_0 := cell_of_row _ _ 0 _ _ _ hSz.2.1; have c1_1 := cell_of_row _ _ 1 _ _ _ hSz.2.1; have c1_2 := cell_of_row _ _ 2 _ _ _ hSz.2.1; have c1_3 := cell_of_row _ _ 3 _ _ _ hSz.2.1; have c1_4 := cell_of_row _ _ 4 _ _ _ hSz.2.1; have c1_5 := cell_of_row _ _ 5 _ _ _ hSz.2.1; have c1_6 := cell_of_row _ _ 6 _ _ _ hSz.2.1; have c1_7 := cell_of_row _ _ 7 _ _ _ hSz.2.1; simp at c0_0 c0_1 c0_2 c0_3 c0_4 c0_5 c0_6 c0_7 c1_0 c1_1 c1_2 c1_3 c1_4 c1_5 c1_6 c1_7; have eSz := hSz.2.2.1; have eS2z := hSz.2.2.2.1; have ea1z := hSz.2.2.2.2.1; have ea2z := hSz.2.2.2.2.2.1; have ea3z := hSz.2.2.2.2.2.2.1; have eb1z := hSz.2.2.2.2.2.2.2.1; have eb2z := hSz.2.2.2.2.2.2.2.2.1; have eb3z := hSz.2.2.2.2.2.2.2.2.2; go_simp; try with_reducible rfl)⟩) hS0 ?_
  go_simp
  refine wpAnyH_take (i := 15) (v := ?_) rfl (by kernel_rfl) (by kernel_rfl) (by kernel_rfl) (fun _ _ _ h => h) (Or.inl ⟨by kernel_rfl, by (intro wz hSz; go_simp; try with_reducible rfl)⟩) hS0 ?_
  go_simp
  refine wpAnyH_take (i := 16) (v := ?_) rfl (by kernel_rfl) (by kernel_rfl) (by kernel_rfl) (fun _ _ _ h => h) (Or.inl ⟨by kernel_rfl, by (intro wz hSz; have c0_0 := cell_of_row _ _ 0 _ _ _ hSz.1; have c0_1 := cell_of_row _ _ 1 _ _ _ hSz.1; have c0_2 := cell_of_row _ _ 2 _ _ _ hSz.1; have c0_3 := cell_of_row _ _ 3 _ _ _ hSz.1; have c0_4 := cell_of_row _ _ 4 _ _ _ hSz.1; have c0_5 := cell_of_row _ _ 5 _ _ _ hSz.1; have c0_6 := cell_of_row _ _ 6 _ _ _ hSz.1; have c0_7 := cell_of_row _ _ 7 _ _ _ hSz.1; have c1_0 := cell_of_row _ _ 0 _ _ _ hSz.2.1; have c1_1 := cell_of_row _ _ 1 _ _ _ hSz.2.1; have c1_2 := cell_of_row _ _ 2 _ _ _ hSz.2.1; have c1_3 := cell_of_row _ _ 3 _ _ _ hSz.2.1; have c1_4 := cell_of_row _ _ 4 _ _ _ hSz.2.1; have c1_5 := cell_of_row _ _ 5 _ _ _ hSz.2.1; have c1_6 := cell_of_row _ _ 6 _ _ _ hSz.2.1; have c1_7 := cell_of_row _ _ 7 _ _ _ hSz.2.1; simp at c0_0 c0_1 c0_2 c0_3 c0_4 c0_5 c0_6 c0_7 c1_0 c1_1 c1_2 c1_3 c1_4 c1_5 c1_6 c1_7; have eSz := hSz.2.2.1; have eS2z := hSz.2.2.2.1; have ea1z := hSz.2.2.2.2.1; have ea2z := hSz.2.2.2.2.2.1; have ea3z := hSz.2.2.2.2.2.2.1; have eb1z := hSz.2.2.2.2.2.2.2.1; have eb2z := hSz.2.2.2.2.2.2.2.2.1; have eb3z := hSz.2.2.2.2.2.2.2.2.2; go_simp; try with_reducible rfl)⟩) hS0 ?_
  go_simp
  refine wpAnyH_take (i := 17) (v := ?_) rfl (by kernel_rfl) (by kernel_rfl) (by kernel_rfl) (fun _ _ _ h => h) (Or.inl ⟨by kernel_rfl, by (intro wz hSz; go_simp; try with_reducible rfl)⟩) hS0 ?_
  go_simp
  refine wpAnyH_take (i := 18) (v := ?_) rfl (by kernel_rfl) (by kernel_rfl) (by kernel_rfl) (fun _ _ _ h => h) (Or.inl ⟨by kernel_rfl, by (intro wz hSz; go_simp; try with_reducible rfl)⟩) hS0 ?_
  go_simp
  refine wpAnyH_take (i := 19) (v := ?_) rfl (by kernel_rfl) (by kernel_rfl) (by kernel_rfl) (fun _ _ _ h => h) (Or.inl ⟨by kernel_rfl, by (intro wz hSz; have c0_0 := cell_of_row _ _ 0 _ _ _ hSz.1; have c0_1 := cell_of_row _ _ 1 _ _ _ hSz.1; have c0_2 := cell_of_row _ _ 2 _ _ _ hSz.1; have c0_3 := cell_of_row _ _ 3 _ _ _ hSz.1; have c0_4 := cell_of_row _ _ 4 _ _ _ hSz.1; have c0_5 := cell_of_row _ _ 5 _ _ _ hSz.1; have c0_6 := cell_of_row _ _ 6 _ _ _ hSz.1; have c0_7 := cell_of_row _ _ 7 _ _ _ hSz.1; have c1_0 := cell_of_row _ _ 0 _ _ _ hSz.2.1; have c1_1 := cell_of_row _ _ 1 _ _ _ hSz.2.1; have c1_2 := cell_of_row _ _ 2 _ _ _ hSz.2.1; have c1_3 := cell_of_row _ _ 3 _ _ _ hSz.2.1; have c1_4 := cell_of_row _ _ 4 _ _ _ hSz.2.1; have c1_5 := cell_of_row _ _ 5 _ _ _ hSz.2.1; have c1_6 := cell_of_row _ _ 6 _ _ _ hSz.2.1; have c1_7 := cell_of_row _ _ 7 _ _ _ hSz.2.1; simp at c0_0 c0_1 c0_2 c0_3 c0_4 c0_5 c0_6 c0_7 c1_0 c1_1 c1_2 c1_3 c1_4 c1_5 c1_6 c1_7; have eSz := hSz.2.2.1; have eS2z := hSz.2.2.2.1; have ea1z := hSz.2.2.2.2.1; have ea2z := hSz.2.2.2.2.2.1; have ea3z := hSz.2.2.2.2.2.2.1; have eb1z := hSz.2.2.2.2.2.2.2.1; have eb2z := hSz.2.2.2.2.2.2.2.2.1; have eb3z := hSz.2.2.2.2.2.2.2.2.2; go_simp; try with_reducible rfl)⟩) hS0 ?_
  go_simp
  refine wpAnyH_take (i := 20) (v := ?_) rfl (by kernel_rfl) (by kernel_rfl) (by kernel_rfl) (fun _ _ _ h => h) (Or.inl ⟨by kernel_rfl, by (intro wz hSz; go_simp; try with_reducible rfl)⟩) hS0 ?_
  go_simp
  refine wpAnyH_take (i := 21) (v := ?_) rfl (by kernel_rfl) (by kernel_rfl) (by kernel_rfl) (fun _ _ _ h => h) (Or.inl ⟨by kernel_rfl, by (intro wz hSz; go_simp; try with_reducible rfl)⟩) hS0 ?_
  go_simp
  refine wpAnyH_done (by kernel_rfl) ?_ _
  go_upto_region 4 with fail
  have eS := hS0.2.2.1
  have eS2 := hS0.2.2.2.1
  have ea1 := hS0.2.2.2.2.1
  have ea2 := hS0.2.2.2.2.2.1
  have ea3 := hS0.2.2.2.2.2.2.1
  have eb1 := hS0.2.2.2.2.2.2.2.1
  have eb2 := hS0.2.2.2.2.2.2.2.2.1
  have eb3 := hS0.2.2.2.2.2.2.2.2.2
  refine wp_region_held_drew (S := fun y => y.heap[w.heap.size]? = some (.cells #[.int .i64 W, .int .i64 H, .slice al nl cl, .slice ad nd cd, .slice (some ⟨vb, vo, none⟩) nn cn, .slice ab nb cb, .slice (some ⟨xb, xo, none⟩) ns cx, .slice (some ⟨fb, fo, none⟩) nf cf] 29 (0, 0)) ∧ y.heap[w.heap.size + 1]? = some (.cells #[.int .i64 W2, .int .i64 H2, .slice al2 nl2 cl2, .slice ad2 nd2 cd2, .slice (some ⟨vb2, vo2, none⟩) nn2 cn2, .slice ab2 nb2 cb2, .slice (some ⟨xb2, xo2, none⟩) ns2 cx2, .slice af2 nf2 cf2] 29 (0, 0)) ∧ y.cell? ⟨vb, vo + i * 3, none⟩ = some (.int .i64 a1) ∧ y.cell? ⟨vb, vo + i * 3 + 1, none⟩ = some (.int .i64 a2) ∧ y.cell? ⟨vb, vo + i * 3 + 2, none⟩ = some (.int .i64 a3) ∧ y.cell? ⟨vb2, vo2 + k * 3, none⟩ = some (.int .i64 b1) ∧ y.cell? ⟨vb2, vo2 + k * 3 + 1, none⟩ = some (.int .i64 b2) ∧ y.cell? ⟨vb2, vo2 + k * 3 + 2, none⟩ = some (.int .i64 b3)) (by kernel_rfl) (⟨hr1_0, hr1_1, ea1, ea2, ea3, eb1, eb2, eb3⟩) (fun hS0 => ?_)
  obtain ⟨y2, hy2⟩ : ∃ y, y1.drew = y := ⟨_, rfl⟩
  have HU2 := Lib.hid (show Below w.heap.size w y2 by rw [← hy2]; exact HU1.out.drew)
  have hr2_0 : y2.heap[w.heap.size]? = some (.cells #[.int .i64 W, .int .i64 H, .slice al nl cl, .slice ad nd cd, .slice (some ⟨vb, vo, none⟩) nn cn, .slice ab nb cb, .slice (some ⟨xb, xo, none⟩) ns cx, .slice (some ⟨fb, fo, none⟩) nf cf] 29 (0, 0)) := by rw [← hy2]; exact hr1_0
  have hr2_1 : y2.heap[w.heap.size + 1]? = some (.cells #[.int .i64 W2, .int .i64 H2, .slice al2 nl2 cl2, .slice ad2 nd2 cd2, .slice (some ⟨vb2, vo2, none⟩) nn2 cn2, .slice ab2 nb2 cb2, .slice (some ⟨xb2, xo2, none⟩) ns2 cx2, .slice af2 nf2 cf2] 29 (0, 0)) := by rw [← hy2]; exact hr1_1
  rw [hy2] at hS0 ⊢
  clear hy2
  refine wpAnyH_take (i := 0) (v := ?_) rfl (by kernel_rfl) (by kernel_rfl) (by kernel_rfl) (fun _ _ _ h => h) (Or.inl ⟨by kernel_rfl, by (intro wz hSz; go_simp; try with_reducible rfl)⟩) hS0 ?_
  go_simp
  refine wpAnyH_take (i := 1) (v := ?_) rfl (by kernel_rfl) (by kernel_rfl) (by kernel_rfl) (fun _ _ _ h => h) (Or.inl ⟨by kernel_rfl, by (intro wz hSz; have c0_0 := cell_of_row _ _ 0 _ _ _ hSz.1; have c0_1 := cell_of_row _ _ 1 _ _ _ hSz.1; have c0_2 := cell_of_row _ _ 2 _ _ _ hSz.1; have c0_3 := cell_of_row _ _ 3 _ _ _ hSz.1; have c0_4 := cell_of_row _ _ 4 _ _ _ hSz.1; have c0_5 := cell_of_row _ _ 5 _ _ _ hSz.1; have c0_6 := cell_of_row _ _ 6 _ _ _ hSz.1; have c0_7 := cell_of_row _ _ 7 _ _ _ hSz.1; have c1_0 := cell_of_row _ _ 0 _ _ _ hSz.2.1; have c1_1 := cell_of_row _ _ 1 _ _ _ hSz.2.1; have c1_2 := cell_of_row _ _ 2 _ _ _ hSz.2.1; have c1_3 := cell_of_row _ _ 3 _ _ _ hSz.2.1; have c1_4 := cell_of_row _ _ 4 _ _ _ hSz.2.1; have c1_5 := cell_of_row _ _ 5 _ _ _ hSz.2.1; have c1_6 := cell_of_row _ _ 6 _ _ _ hSz.2.1; have c1_7 := cell_of_row _ _ 7 _ _ _ hSz.2.1; simp at c0_0 c0_1 c0_2 c0_3 c0_4 c0_5 c0_6 c0_7 c1_0 c1_1 c1_2 c1_3 c1_4 c1_5 c1_6 c1_7; have ea1z := hSz.2.2.1; have ea2z := hSz.2.2.2.1; have ea3z := hSz.2.2.2.2.1; have eb1z := hSz.2.2.2.2.2.1; have eb2z := hSz.2.2.2.2.2.2.1; have eb3z := hSz.2.2.2.2.2.2.2; go_simp; try with_reducible rfl)⟩) hS0 ?_
  go_simp
  refine wpAnyH_take (i := 2) (v := ?_) rfl (by kernel_rfl) (by kernel_rfl) (by kernel_rfl) (fun _ _ _ h => h) (Or.inl ⟨by kernel_rfl, by (intro wz hSz; go_simp; try with_reducible rfl)⟩) hS0 ?_
  go_simp
  refine wpAnyH_take (i := 3) (v := ?_) rfl (by kernel_rfl) (by kernel_rfl) (by kernel_rfl) (fun _ _ _ h => h) (Or.inl ⟨by kernel_rfl, by (intro wz hSz; go_simp; try with_reducible rfl)⟩) hS0 ?_
  go_simp
  refine wpAnyH_take (i := 4) (v := ?_) rfl (by kernel_rfl) (by kernel_rfl) (by kernel_rfl) (fun _ _ _ h => h) (Or.inl ⟨by kernel_rfl, by (intro wz hSz; have c0_0 := cell_of_row _ _ 0 _ _ _ hSz.1; have c0_1 := cell_of_row _ _ 1 _ _ _ hSz.1; have c0_2 := cell_of_row _ _ 2 _ _ _ hSz.1; have c0_3 := cell_of_row _ _ 3 _ _ _ hSz.1; have c0_4 := cell_of_row _ _ 4 _ _ _ hSz.1; have c0_5 := cell_of_row _ _ 5 _ _ _ hSz.1; have c0_6 := cell_of_row _ _ 6 _ _ _ hSz.1; have c0_7 := cell_of_row _ _ 7 _ _ _ hSz.1; have c1_0 := cell_of_row _ _ 0 _ _ _ hSz.2.1; have c1_1 := cell_of_row _ _ 1 _ _ _ hSz.2.1; have c1_2 := cell_of_row _ _ 2 _ _ _ hSz.2.1; have c1_3 := cell_of_row _ _ 3 _ _ _ hSz.2.1; have c1_4 := cell_of_row _ _ 4 _ _ _ hSz.2.1; have c1_5 := cell_of_row _ _ 5 _ _ _ hSz.2.1; have c1_6 := cell_of_row _ _ 6 _ _ _ hSz.2.1; have c1_7 := cell_of_row _ _ 7 _ _ _ hSz.2.1; simp at c0_0 c0_1 c0_2 c0_3 c0_4 c0_5 c0_6 c0_7 c1_0 c1_1 c1_2 c1_3 c1_4 c1_5 c1_6 c1_7; have ea1z := hSz.2.2.1; have ea2z := hSz.2.2.2.1; have ea3z := hSz.2.2.2.2.1; have eb1z := hSz.2.2.2.2.2.1; have eb2z := hSz.2.2.2.2.2.2.1; have eb3z := hSz.2.2.2.2.2.2.2; go_simp; try with_reducible rfl)⟩) hS0 ?_
  go_simp
  refine wpAnyH_take (i := 5) (v := ?_) rfl (by kernel_rfl) (by kernel_rfl) (by kernel_rfl) (fun _ _ _ h => h) (Or.inl ⟨by kernel_rfl, by (intro wz hSz; go_simp; try with_reducible rfl)⟩) hS0 ?_
  go_simp
  refine wpAnyH_take (i := 6) (v := ?_) rfl (by kernel_rfl) (by kernel_rfl) (by kernel_rfl) (fun _ _ _ h => h) (Or.inl ⟨by kernel_rfl, by (intro wz hSz; have c0_0 := cell_of_row _ _ 0 _ _ _ hSz.1; have c0_1 := cell_of_row _ _ 1 _ _ _ hSz.1; have c0_2 := cell_of_row _ _ 2 _ _ _ hSz.1; have c0_3 := cell_of_row _ _ 3 _ _ _ hSz.1; have c0_4 := cell_of_row _ _ 4 _ _ _ hSz.1; have c0_5 := cell_of_row _ _ 5 _ _ _ hSz.1; have c0_6 := cell_of_row _ _ 6 _ _ _ hSz.1; have c0_7 := cell_of_row _ _ 7 _ _ _ hSz.1; have c1_0 := cell_of_row _ _ 0 _ _ _ hSz.2.1; have c1_1 := cell_of_row _ _ 1 _ _ _ hSz.2.1; have c1_2 := cell_of_row _ _ 2 _ _ _ hSz.2.1; have c1_3 := cell_of_row _ _ 3 _ _ _ hSz.2.1; have c1_4 := cell_of_row _ _ 4 _ _ _ hSz.2.1; have c1_5 := cell_of_row _ _ 5 _ _ _ hSz.2.1; have c1_6 := cell_of_row _ _ 6 _ _ _ hSz.2.1; have c1_7 := cell_of_row _ _ 7 _ _ _ hSz.2.1; simp at c0_0 c0_1 c0_2 c0_3 c0_4 c0_5 c0_6 c0_7 c1_0 c1_1 c1_2 c1_3 c1_4 c1_5 c1_6 c1_7; have ea1z := hSz.2.2.1; have ea2z := hSz.2.2.2.1; have ea3z := hSz.2.2.2.2.1; have eb1z := hSz.2.2.2.2.2.1; have eb2z := hSz.2.2.2.2.2.2.1; have eb3z := hSz.2.2.2.2.2.2.2; go_simp; try with_reducible rfl)⟩) hS0 ?_
  go_simp
  refine wpAnyH_take (i := 7) (v := ?_) rfl (by kernel_rfl) (by kernel_rfl) (by kernel_rfl) (fun _ _ _ h => h) (Or.inl ⟨by kernel_rfl, by (intro wz hSz; go_simp; try with_reducible rfl)⟩) hS0 ?_
  go_simp
  refine wpAnyH_take (i := 8) (v := ?_) rfl (by kernel_rfl) (by kernel_rfl) (by kernel_rfl) (fun _ _ _ h => h) (Or.inl ⟨by kernel_rfl, by (intro wz hSz; go_simp; try with_reducible rfl)⟩) hS0 ?_
  go_simp
  refine wpAnyH_take (i := 9) (v := ?_) rfl (by kernel_rfl) (by kernel_rfl) (by kernel_rfl) (fun _ _ _ h => h) (Or.inl ⟨by kernel_rfl, by (intro wz hSz; have c0_0 := cell_of_row _ _ 0 _ _ _ hSz.1; have c0_1 := cell_of_row _ _ 1 _ _ _ hSz.1; have c0_2 := cell_of_row _ _ 2 _ _ _ hSz.1; have c0_3 := cell_of_row _ _ 3 _ _ _ hSz.1; have c0_4 := cell_of_row _ _ 4 _ _ _ hSz.1; have c0_5 := cell_of_row _ _ 5 _ _ _ hSz.1; have c0_6 := cell_of_row _ _ 6 _ _ _ hSz.1; have c0_7 := cell_of_row _ _ 7 _ _ _ hSz.1; have c1_0 := cell_of_row _ _ 0 _ _ _ hSz.2.1; have c1_1 := cell_of_row _ _ 1 _ _ _ hSz.2.1; have c1_2 := cell_of_row _ _ 2 _ _ _ hSz.2.1; have c1_3 := cell_of_row _ _ 3 _ _ _ hSz.2.1; have c1_4 := cell_of_row _ _ 4 _ _ _ hSz.2.1; have c1_5 := cell_of_row _ _ 5 _ _ _ hSz.2.1; have c1_6 := cell_of_row _ _ 6 _ _ _ hSz.2.1; have c1_7 := cell_of_row _ _ 7 _ _ _ hSz.2.1; simp at c0_0 c0_1 c0_2 c0_3 c0_4 c0_5 c0_6 c0_7 c1_0 c1_1 c1_2 c1_3 c1_4 c1_5 c1_6 c1_7; have ea1z := hSz.2.2.1; have ea2z := hSz.2.2.2.1; have ea3z := hSz.2.2.2.2.1; have eb1z := hSz.2.2.2.2.2.1; have eb2z := hSz.2.2.2.2.2.2.1; have eb3z := hSz.2.2.2.2.2.2.2; go_simp; try with_reducible rfl)⟩) hS0 ?_
  go_simp
  refine wpAnyH_ready (rs := [10]) (by kernel_rfl) (by simp) ?_
  refine AllReadyH.cons rfl (fun K hK => ?_) AllReadyH.nil
  go_simp
  go_wp2_with (go_at_call 40; refine (hT _).mono ?_; rintro e y3 ⟨rfl, hb3⟩)
  have hr3_0 := (hb3.block _ (lt_heap hr2_0)).trans hr2_0
  have hr3_1 := (hb3.block _ (lt_heap hr2_1)).trans hr2_1
  have HU3 := Lib.hid (HU2.out.trans (hb3.mono HU2.out.size))
  refine hK.out _ _ (⟨(hb3.block _ (lt_heap hS0.1)).trans hS0.1, (hb3.block _ (lt_heap hS0.2.1)).trans hS0.2.1, (hb3.cell (p := ⟨vb, vo + i * 3, none⟩) (World.block_lt_of_cell? _ _ (hS0.2.2.1))).trans hS0.2.2.1, (hb3.cell (p := ⟨vb, vo + i * 3 + 1, none⟩) (World.block_lt_of_cell? _ _ (hS0.2.2.2.1))).trans hS0.2.2.2.1, (hb3.cell (p := ⟨vb, vo + i * 3 + 2, none⟩) (World.block_lt_of_cell? _ _ (hS0.2.2.2.2.1))).trans hS0.2.2.2.2.1, (hb3.cell (p := ⟨vb2, vo2 + k * 3, none⟩) (World.block_lt_of_cell? _ _ (hS0.2.2.2.2.2.1))).trans hS0.2.2.2.2.2.1, (hb3.cell (p := ⟨vb2, vo2 + k * 3 + 1, none⟩) (World.block_lt_of_cell? _ _ (hS0.2.2.2.2.2.2.1))).trans hS0.2.2.2.2.2.2.1, (hb3.cell (p := ⟨vb2, vo2 + k * 3 + 2, none⟩) (World.block_lt_of_cell? _ _ (hS0.2.2.2.2.2.2.2))).trans hS0.2.2.2.2.2.2.2⟩) (fun hS3c => ?_)
  clear hK K
  refine wpAnyH_take (i := 11) (v := ?_) rfl (by kernel_rfl) (by kernel_rfl) (by kernel_rfl) (fun _ _ _ h => h) (Or.inl ⟨by kernel_rfl, by (intro wz hSz; go_simp; try with_reducible rfl)⟩) hS3c ?_
  go_simp
  refine wpAnyH_done (by kernel_rfl) ?_ _
  go_wp2
  go_ret
  exact ⟨rfl, HU3.out⟩

set_option maxHeartbeats 4000000 in
set_option maxRecDepth 100000 in
theorem dpast_yes (W H W2 H2 : Int) (al ad ab al2 ad2 ab2 af2 : Option Addr) (fb fo xb xo xb2 xo2 vb vo vb2 vo2 cl cd cn cb cx cf nl nd nn nb ns nf cl2 cd2 cn2 cb2 cx2 cf2 nl2 nd2 nn2 nb2 ns2 nf2 : Nat) (w : World) (i : Nat) (hi : i < nf) (hsn : ns = nf) (hnn : nn = nf) (k : Nat) (eF : w.cell? ⟨fb, fo + i, none⟩ = some (.int .i64 (k : Int))) (hk : k < ns2) (hn2 : nn2 = ns2) (s1 s2 : Int) (eS : w.cell? ⟨xb, xo + i, none⟩ = some (.int .i64 s1)) (eS2 : w.cell? ⟨xb2, xo2 + k, none⟩ = some (.int .i64 s2)) (hs : s1 = s2) (a1 a2 a3 : Int) (ea1 : w.cell? ⟨vb, vo + i * 3, none⟩ = some (.int .i64 a1)) (ea2 : w.cell? ⟨vb, vo + i * 3 + 1, none⟩ = some (.int .i64 a2)) (ea3 : w.cell? ⟨vb, vo + i * 3 + 2, none⟩ = some (.int .i64 a3)) (b1 b2 b3 : Int) (eb1 : w.cell? ⟨vb2, vo2 + k * 3, none⟩ = some (.int .i64 b1)) (eb2 : w.cell? ⟨vb2, vo2 + k * 3 + 1, none⟩ = some (.int .i64 b2)) (eb3 : w.cell? ⟨vb2, vo2 + k * 3 + 2, none⟩ = some (.int .i64 b3)) (z : Int) (hz : ¬ z < 57344) (hT : ∀ W : World, Calls Try.prog 40 #[.agg #[.int .i64 b1, .int .i64 b2, .int .i64 b3], .agg #[.int .i64 a1, .int .i64 a2, .int .i64 a3]] W fun e' w' => e' = .returned (.int .i64 z) ∧ Below W.heap.size W w') : Calls Try.prog 28 #[.agg #[.int .i64 W, .int .i64 H, .slice al nl cl, .slice ad nd cd, .slice (some ⟨vb, vo, none⟩) nn cn, .slice ab nb cb, .slice (some ⟨xb, xo, none⟩) ns cx, .slice (some ⟨fb, fo, none⟩) nf cf], .agg #[.int .i64 W2, .int .i64 H2, .slice al2 nl2 cl2, .slice ad2 nd2 cd2, .slice (some ⟨vb2, vo2, none⟩) nn2 cn2, .slice ab2 nb2 cb2, .slice (some ⟨xb2, xo2, none⟩) ns2 cx2, .slice af2 nf2 cf2], .int .i64 i] w fun e' w' => e' = .returned (.int .i64 k) ∧ Below w.heap.size w w' := by
  have hi' : (i : Int) < nf := by omega
  have hi2 : (i : Int) < ns := by omega
  have hi3 : (i : Int) < nn := by omega
  have d0 : decide ((k : Int) < 0) = false := decide_eq_false (by omega)
  have d1 : decide (ns2 ≤ k) = false := decide_eq_false (by omega)
  have hk2 : (k : Int) < ns2 := by omega
  have hk3 : (k : Int) < nn2 := by omega
  have d2 : (s2 != s1) = false := by simpa using hs.symm
  have d3 : decide (z < 57344) = false := decide_eq_false hz
  clear hsn hnn hs hn2 hz
  go_enter Try.func28, Try.ntmps28
  go_upto_region 1 with fail
  have hR := Au.rows2 w (.cells #[.int .i64 W, .int .i64 H, .slice al nl cl, .slice ad nd cd, .slice (some ⟨vb, vo, none⟩) nn cn, .slice ab nb cb, .slice (some ⟨xb, xo, none⟩) ns cx, .slice (some ⟨fb, fo, none⟩) nf cf] 29) (.cells #[.int .i64 W2, .int .i64 H2, .slice al2 nl2 cl2, .slice ad2 nd2 cd2, .slice (some ⟨vb2, vo2, none⟩) nn2 cn2, .slice ab2 nb2 cb2, .slice (some ⟨xb2, xo2, none⟩) ns2 cx2, .slice af2 nf2 cf2] 29)
  have HUx := Ve.below_n2 w (.cells #[.int .i64 W, .int .i64 H, .slice al nl cl, .slice ad nd cd, .slice (some ⟨vb, vo, none⟩) nn cn, .slice ab nb cb, .slice (some ⟨xb, xo, none⟩) ns cx, .slice (some ⟨fb, fo, none⟩) nf cf] 29) (.cells #[.int .i64 W2, .int .i64 H2, .slice al2 nl2 cl2, .slice ad2 nd2 cd2, .slice (some ⟨vb2, vo2, none⟩) nn2 cn2, .slice ab2 nb2 cb2, .slice (some ⟨xb2, xo2, none⟩) ns2 cx2, .slice af2 nf2 cf2] 29)
  obtain ⟨y0, hy0⟩ : ∃ y0, (w.alloc (.cells #[.int .i64 W, .int .i64 H, .slice al nl cl, .slice ad nd cd, .slice (some ⟨vb, vo, none⟩) nn cn, .slice ab nb cb, .slice (some ⟨xb, xo, none⟩) ns cx, .slice (some ⟨fb, fo, none⟩) nf cf] 29)).alloc (.cells #[.int .i64 W2, .int .i64 H2, .slice al2 nl2 cl2, .slice ad2 nd2 cd2, .slice (some ⟨vb2, vo2, none⟩) nn2 cn2, .slice ab2 nb2 cb2, .slice (some ⟨xb2, xo2, none⟩) ns2 cx2, .slice af2 nf2 cf2] 29) = y0 := ⟨_, rfl⟩
  rw [hy0] at hR HUx ⊢
  clear hy0
  have HU0 := Lib.hid HUx
  clear HUx
  obtain ⟨hr0_0, hr0_1⟩ := hR
  replace eF := (HU0.out.cell (p := ⟨fb, fo + i, none⟩) (World.block_lt_of_cell? _ _ eF)).trans eF
  replace eS := (HU0.out.cell (p := ⟨xb, xo + i, none⟩) (World.block_lt_of_cell? _ _ eS)).trans eS
  replace eS2 := (HU0.out.cell (p := ⟨xb2, xo2 + k, none⟩) (World.block_lt_of_cell? _ _ eS2)).trans eS2
  replace ea1 := (HU0.out.cell (p := ⟨vb, vo + i * 3, none⟩) (World.block_lt_of_cell? _ _ ea1)).trans ea1
  replace ea2 := (HU0.out.cell (p := ⟨vb, vo + i * 3 + 1, none⟩) (World.block_lt_of_cell? _ _ ea2)).trans ea2
  replace ea3 := (HU0.out.cell (p := ⟨vb, vo + i * 3 + 2, none⟩) (World.block_lt_of_cell? _ _ ea3)).trans ea3
  replace eb1 := (HU0.out.cell (p := ⟨vb2, vo2 + k * 3, none⟩) (World.block_lt_of_cell? _ _ eb1)).trans eb1
  replace eb2 := (HU0.out.cell (p := ⟨vb2, vo2 + k * 3 + 1, none⟩) (World.block_lt_of_cell? _ _ eb2)).trans eb2
  replace eb3 := (HU0.out.cell (p := ⟨vb2, vo2 + k * 3 + 2, none⟩) (World.block_lt_of_cell? _ _ eb3)).trans eb3
  have c0_0 := cell_of_row _ _ 0 _ _ _ hr0_0
  have c0_1 := cell_of_row _ _ 1 _ _ _ hr0_0
  have c0_2 := cell_of_row _ _ 2 _ _ _ hr0_0
  have c0_3 := cell_of_row _ _ 3 _ _ _ hr0_0
  have c0_4 := cell_of_row _ _ 4 _ _ _ hr0_0
  have c0_5 := cell_of_row _ _ 5 _ _ _ hr0_0
  have c0_6 := cell_of_row _ _ 6 _ _ _ hr0_0
  have c0_7 := cell_of_row _ _ 7 _ _ _ hr0_0
  have c1_0 := cell_of_row _ _ 0 _ _ _ hr0_1
  have c1_1 := cell_of_row _ _ 1 _ _ _ hr0_1
  have c1_2 := cell_of_row _ _ 2 _ _ _ hr0_1
  have c1_3 := cell_of_row _ _ 3 _ _ _ hr0_1
  have c1_4 := cell_of_row _ _ 4 _ _ _ hr0_1
  have c1_5 := cell_of_row _ _ 5 _ _ _ hr0_1
  have c1_6 := cell_of_row _ _ 6 _ _ _ hr0_1
  have c1_7 := cell_of_row _ _ 7 _ _ _ hr0_1
  simp at c0_0 c0_1 c0_2 c0_3 c0_4 c0_5 c0_6 c0_7 c1_0 c1_1 c1_2 c1_3 c1_4 c1_5 c1_6 c1_7
  go_upto_region 2 with fail
  clear c0_0 c0_1 c0_2 c0_3 c0_4 c0_5 c0_6 c0_7 c1_0 c1_1 c1_2 c1_3 c1_4 c1_5 c1_6 c1_7
  refine wp_region_held_drew (S := fun y => y.heap[w.heap.size]? = some (.cells #[.int .i64 W, .int .i64 H, .slice al nl cl, .slice ad nd cd, .slice (some ⟨vb, vo, none⟩) nn cn, .slice ab nb cb, .slice (some ⟨xb, xo, none⟩) ns cx, .slice (some ⟨fb, fo, none⟩) nf cf] 29 (0, 0)) ∧ y.heap[w.heap.size + 1]? = some (.cells #[.int .i64 W2, .int .i64 H2, .slice al2 nl2 cl2, .slice ad2 nd2 cd2, .slice (some ⟨vb2, vo2, none⟩) nn2 cn2, .slice ab2 nb2 cb2, .slice (some ⟨xb2, xo2, none⟩) ns2 cx2, .slice af2 nf2 cf2] 29 (0, 0)) ∧ y.cell? ⟨xb, xo + i, none⟩ = some (.int .i64 s1) ∧ y.cell? ⟨xb2, xo2 + k, none⟩ = some (.int .i64 s2) ∧ y.cell? ⟨vb, vo + i * 3, none⟩ = some (.int .i64 a1) ∧ y.cell? ⟨vb, vo + i * 3 + 1, none⟩ = some (.int .i64 a2) ∧ y.cell? ⟨vb, vo + i * 3 + 2, none⟩ = some (.int .i64 a3) ∧ y.cell? ⟨vb2, vo2 + k * 3, none⟩ = some (.int .i64 b1) ∧ y.cell? ⟨vb2, vo2 + k * 3 + 1, none⟩ = some (.int .i64 b2) ∧ y.cell? ⟨vb2, vo2 + k * 3 + 2, none⟩ = some (.int .i64 b3)) (by kernel_rfl) (⟨hr0_0, hr0_1, eS, eS2, ea1, ea2, ea3, eb1, eb2, eb3⟩) (fun hS0 => ?_)
  obtain ⟨y1, hy1⟩ : ∃ y, y0.drew = y := ⟨_, rfl⟩
  have HU1 := Lib.hid (show Below w.heap.size w y1 by rw [← hy1]; exact HU0.out.drew)
  have hr1_0 : y1.heap[w.heap.size]? = some (.cells #[.int .i64 W, .int .i64 H, .slice al nl cl, .slice ad nd cd, .slice (some ⟨vb, vo, none⟩) nn cn, .slice ab nb cb, .slice (some ⟨xb, xo, none⟩) ns cx, .slice (some ⟨fb, fo, none⟩) nf cf] 29 (0, 0)) := by rw [← hy1]; exact hr0_0
  have hr1_1 : y1.heap[w.heap.size + 1]? = some (.cells #[.int .i64 W2, .int .i64 H2, .slice al2 nl2 cl2, .slice ad2 nd2 cd2, .slice (some ⟨vb2, vo2, none⟩) nn2 cn2, .slice ab2 nb2 cb2, .slice (some ⟨xb2, xo2, none⟩) ns2 cx2, .slice af2 nf2 cf2] 29 (0, 0)) := by rw [← hy1]; exact hr0_1
  rw [hy1] at hS0 ⊢
  clear hy1
  refine wpAnyH_take (i := 0) (v := ?_) rfl (by kernel_rfl) (by kernel_rfl) (by kernel_rfl) (fun _ _ _ h => h) (Or.inl ⟨by kernel_rfl, by (intro wz hSz; go_simp; try with_reducible rfl)⟩) hS0 ?_
  go_simp
  refine wpAnyH_take (i := 1) (v := ?_) rfl (by kernel_rfl) (by kernel_rfl) (by kernel_rfl) (fun _ _ _ h => h) (Or.inl ⟨by kernel_rfl, by (intro wz hSz; go_simp; try with_reducible rfl)⟩) hS0 ?_
  go_simp
  refine wpAnyH_take (i := 2) (v := ?_) rfl (by kernel_rfl) (by kernel_rfl) (by kernel_rfl) (fun _ _ _ h => h) (Or.inl ⟨by kernel_rfl, by (intro wz hSz; go_simp; try with_reducible rfl)⟩) hS0 ?_
  go_simp
  refine wpAnyH_take (i := 3) (v := ?_) rfl (by kernel_rfl) (by kernel_rfl) (by kernel_rfl) (fun _ _ _ h => h) (Or.inl ⟨by kernel_rfl, by (intro wz hSz; go_simp; try with_reducible rfl)⟩) hS0 ?_
  go_simp
  refine wpAnyH_take (i := 4) (v := ?_) rfl (by kernel_rfl) (by kernel_rfl) (by kernel_rfl) (fun _ _ _ h => h) (Or.inl ⟨by kernel_rfl, by (intro wz hSz; go_simp; try with_reducible rfl)⟩) hS0 ?_
  go_simp
  refine wpAnyH_take (i := 5) (v := ?_) rfl (by kernel_rfl) (by kernel_rfl) (by kernel_rfl) (fun _ _ _ h => h) (Or.inl ⟨by kernel_rfl, by (intro wz hSz; have c0_0 := cell_of_row _ _ 0 _ _ _ hSz.1; have c0_1 := cell_of_row _ _ 1 _ _ _ hSz.1; have c0_2 := cell_of_row _ _ 2 _ _ _ hSz.1; have c0_3 := cell_of_row _ _ 3 _ _ _ hSz.1; have c0_4 := cell_of_row _ _ 4 _ _ _ hSz.1; have c0_5 := cell_of_row _ _ 5 _ _ _ hSz.1; have c0_6 := cell_of_row _ _ 6 _ _ _ hSz.1; have c0_7 := cell_of_row _ _ 7 _ _ _ hSz.1; have c1_0 := cell_of_row _ _ 0 _ _ _ hSz.2.1; have c1_1 := cell_of_row _ _ 1 _ _ _ hSz.2.1; have c1_2 := cell_of_row _ _ 2 _ _ _ hSz.2.1; have c1_3 := cell_of_row _ _ 3 _ _ _ hSz.2.1; have c1_4 := cell_of_row _ _ 4 _ _ _ hSz.2.1; have c1_5 := cell_of_row _ _ 5 _ _ _ hSz.2.1; have c1_6 := cell_of_row _ _ 6 _ _ _ hSz.2.1; have c1_7 := cell_of_row _ _ 7 _ _ _ hSz.2.1; simp at c0_0 c0_1 c0_2 c0_3 c0_4 c0_5 c0_6 c0_7 c1_0 c1_1 c1_2 c1_3 c1_4 c1_5 c1_6 c1_7; have eSz := hSz.2.2.1; have eS2z := hSz.2.2.2.1; have ea1z := hSz.2.2.2.2.1; have ea2z := hSz.2.2.2.2.2.1; have ea3z := hSz.2.2.2.2.2.2.1; have eb1z := hSz.2.2.2.2.2.2.2.1; have eb2z := hSz.2.2.2.2.2.2.2.2.1; have eb3z := hSz.2.2.2.2.2.2.2.2.2; go_simp; try with_reducible rfl)⟩) hS0 ?_
  go_simp
  refine wpAnyH_take (i := 6) (v := ?_) rfl (by kernel_rfl) (by kernel_rfl) (by kernel_rfl) (fun _ _ _ h => h) (Or.inl ⟨by kernel_rfl, by (intro wz hSz; go_simp; try with_reducible rfl)⟩) hS0 ?_
  go_simp
  refine wpAnyH_take (i := 7) (v := ?_) rfl (by kernel_rfl) (by kernel_rfl) (by kernel_rfl) (fun _ _ _ h => h) (Or.inl ⟨by kernel_rfl, by (intro wz hSz; go_simp; try with_reducible rfl)⟩) hS0 ?_
  go_simp
  refine wpAnyH_take (i := 8) (v := ?_) rfl (by kernel_rfl) (by kernel_rfl) (by kernel_rfl) (fun _ _ _ h => h) (Or.inl ⟨by kernel_rfl, by (intro wz hSz; go_simp; try with_reducible rfl)⟩) hS0 ?_
  go_simp
  refine wpAnyH_take (i := 9) (v := ?_) rfl (by kernel_rfl) (by kernel_rfl) (by kernel_rfl) (fun _ _ _ h => h) (Or.inl ⟨by kernel_rfl, by (intro wz hSz; go_simp; try with_reducible rfl)⟩) hS0 ?_
  go_simp
  refine wpAnyH_take (i := 10) (v := ?_) rfl (by kernel_rfl) (by kernel_rfl) (by kernel_rfl) (fun _ _ _ h => h) (Or.inl ⟨by kernel_rfl, by (intro wz hSz; go_simp; try with_reducible rfl)⟩) hS0 ?_
  go_simp
  refine wpAnyH_take (i := 11) (v := ?_) rfl (by kernel_rfl) (by kernel_rfl) (by kernel_rfl) (fun _ _ _ h => h) (Or.inl ⟨by kernel_rfl, by (intro wz hSz; have c0_0 := cell_of_row _ _ 0 _ _ _ hSz.1; have c0_1 := cell_of_row _ _ 1 _ _ _ hSz.1; have c0_2 := cell_of_row _ _ 2 _ _ _ hSz.1; have c0_3 := cell_of_row _ _ 3 _ _ _ hSz.1; have c0_4 := cell_of_row _ _ 4 _ _ _ hSz.1; have c0_5 := cell_of_row _ _ 5 _ _ _ hSz.1; have c0_6 := cell_of_row _ _ 6 _ _ _ hSz.1; have c0_7 := cell_of_row _ _ 7 _ _ _ hSz.1; have c1_0 := cell_of_row _ _ 0 _ _ _ hSz.2.1; have c1_1 := cell_of_row _ _ 1 _ _ _ hSz.2.1; have c1_2 := cell_of_row _ _ 2 _ _ _ hSz.2.1; have c1_3 := cell_of_row _ _ 3 _ _ _ hSz.2.1; have c1_4 := cell_of_row _ _ 4 _ _ _ hSz.2.1; have c1_5 := cell_of_row _ _ 5 _ _ _ hSz.2.1; have c1_6 := cell_of_row _ _ 6 _ _ _ hSz.2.1; have c1_7 := cell_of_row _ _ 7 _ _ _ hSz.2.1; simp at c0_0 c0_1 c0_2 c0_3 c0_4 c0_5 c0_6 c0_7 c1_0 c1_1 c1_2 c1_3 c1_4 c1_5 c1_6 c1_7; have eSz := hSz.2.2.1; have eS2z := hSz.2.2.2.1; have ea1z := hSz.2.2.2.2.1; have ea2z := hSz.2.2.2.2.2.1; have ea3z := hSz.2.2.2.2.2.2.1; have eb1z := hSz.2.2.2.2.2.2.2.1; have eb2z := hSz.2.2.2.2.2.2.2.2.1; have eb3z := hSz.2.2.2.2.2.2.2.2.2; go_simp; try with_reducible rfl)⟩) hS0 ?_
  go_simp
  refine wpAnyH_take (i := 12) (v := ?_) rfl (by kernel_rfl) (by kernel_rfl) (by kernel_rfl) (fun _ _ _ h => h) (Or.inl ⟨by kernel_rfl, by (intro wz hSz; go_simp; try with_reducible rfl)⟩) hS0 ?_
  go_simp
  refine wpAnyH_take (i := 13) (v := ?_) rfl (by kernel_rfl) (by kernel_rfl) (by kernel_rfl) (fun _ _ _ h => h) (Or.inl ⟨by kernel_rfl, by (intro wz hSz; go_simp; try with_reducible rfl)⟩) hS0 ?_
  go_simp
  refine wpAnyH_take (i := 14) (v := ?_) rfl (by kernel_rfl) (by kernel_rfl) (by kernel_rfl) (fun _ _ _ h => h) (Or.inl ⟨by kernel_rfl, by (intro wz hSz; have c0_0 := cell_of_row _ _ 0 _ _ _ hSz.1; have c0_1 := cell_of_row _ _ 1 _ _ _ hSz.1; have c0_2 := cell_of_row _ _ 2 _ _ _ hSz.1; have c0_3 := cell_of_row _ _ 3 _ _ _ hSz.1; have c0_4 := cell_of_row _ _ 4 _ _ _ hSz.1; have c0_5 := cell_of_row _ _ 5 _ _ _ hSz.1; have c0_6 := cell_of_row _ _ 6 _ _ _ hSz.1; have c0_7 := cell_of_row _ _ 7 _ _ _ hSz.1; have c1_0 := cell_of_row _ _ 0 _ _ _ hSz.2.1; have c1_1 := cell_of_row _ _ 1 _ _ _ hSz.2.1; have c1_2 := cell_of_row _ _ 2 _ _ _ hSz.2.1; have c1_3 := cell_of_row _ _ 3 _ _ _ hSz.2.1; have c1_4 := cell_of_row _ _ 4 _ _ _ hSz.2.1; have c1_5 := cell_of_row _ _ 5 _ _ _ hSz.2.1; have c1_6 := cell_of_row _ _ 6 _ _ _ hSz.2.1; have c1_7 := cell_of_row _ _ 7 _ _ _ hSz.2.1; simp at c0_0 c0_1 c0_2 c0_3 c0_4 c0_5 c0_6 c0_7 c1_0 c1_1 c1_2 c1_3 c1_4 c1_5 c1_6 c1_7; have eSz := hSz.2.2.1; have eS2z := hSz.2.2.2.1; have ea1z := hSz.2.2.2.2.1; have ea2z := hSz.2.2.2.2.2.1; have ea3z := hSz.2.2.2.2.2.2.1; have eb1z := hSz.2.2.2.2.2.2.2.1; have eb2z := hSz.2.2.2.2.2.2.2.2.1; have eb3z := hSz.2.2.2.2.2.2.2.2.2; go_simp; try with_reducible rfl)⟩) hS0 ?_
  go_simp
  refine wpAnyH_take (i := 15) (v := ?_) rfl (by kernel_rfl) (by kernel_rfl) (by kernel_rfl) (fun _ _ _ h => h) (Or.inl ⟨by kernel_rfl, by (intro wz hSz; go_simp; try with_reducible rfl)⟩) hS0 ?_
  go_simp
  refine wpAnyH_take (i := 16) (v := ?_) rfl (by kernel_rfl) (by kernel_rfl) (by kernel_rfl) (fun _ _ _ h => h) (Or.inl ⟨by kernel_rfl, by (intro wz hSz; have c0_0 := cell_of_row _ _ 0 _ _ _ hSz.1; have c0_1 := cell_of_row _ _ 1 _ _ _ hSz.1; have c0_2 := cell_of_row _ _ 2 _ _ _ hSz.1; have c0_3 := cell_of_row _ _ 3 _ _ _ hSz.1; have c0_4 := cell_of_row _ _ 4 _ _ _ hSz.1; have c0_5 := cell_of_row _ _ 5 _ _ _ hSz.1; have c0_6 := cell_of_row _ _ 6 _ _ _ hSz.1; have c0_7 := cell_of_row _ _ 7 _ _ _ hSz.1; have c1_0 := cell_of_row _ _ 0 _ _ _ hSz.2.1; have c1_1 := cell_of_row _ _ 1 _ _ _ hSz.2.1; have c1_2 := cell_of_row _ _ 2 _ _ _ hSz.2.1; have c1_3 := cell_of_row _ _ 3 _ _ _ hSz.2.1; have c1_4 := cell_of_row _ _ 4 _ _ _ hSz.2.1; have c1_5 := cell_of_row _ _ 5 _ _ _ hSz.2.1; have c1_6 := cell_of_row _ _ 6 _ _ _ hSz.2.1; have c1_7 := cell_of_row _ _ 7 _ _ _ hSz.2.1; simp at c0_0 c0_1 c0_2 c0_3 c0_4 c0_5 c0_6 c0_7 c1_0 c1_1 c1_2 c1_3 c1_4 c1_5 c1_6 c1_7; have eSz := hSz.2.2.1; have eS2z := hSz.2.2.2.1; have ea1z := hSz.2.2.2.2.1; have ea2z := hSz.2.2.2.2.2.1; have ea3z := hSz.2.2.2.2.2.2.1; have eb1z := hSz.2.2.2.2.2.2.2.1; have eb2z := hSz.2.2.2.2.2.2.2.2.1; have eb3z := hSz.2.2.2.2.2.2.2.2.2; go_simp; try with_reducible rfl)⟩) hS0 ?_
  go_simp
  refine wpAnyH_take (i := 17) (v := ?_) rfl (by kernel_rfl) (by kernel_rfl) (by kernel_rfl) (fun _ _ _ h => h) (Or.inl ⟨by kernel_rfl, by (intro wz hSz; go_simp; try with_reducible rfl)⟩) hS0 ?_
  go_simp
  refine wpAnyH_take (i := 18) (v := ?_) rfl (by kernel_rfl) (by kernel_rfl) (by kernel_rfl) (fun _ _ _ h => h) (Or.inl ⟨by kernel_rfl, by (intro wz hSz; go_simp; try with_reducible rfl)⟩) hS0 ?_
  go_simp
  refine wpAnyH_take (i := 19) (v := ?_) rfl (by kernel_rfl) (by kernel_rfl) (by kernel_rfl) (fun _ _ _ h => h) (Or.inl ⟨by kernel_rfl, by (intro wz hSz; have c0_0 := cell_of_row _ _ 0 _ _ _ hSz.1; have c0_1 := cell_of_row _ _ 1 _ _ _ hSz.1; have c0_2 := cell_of_row _ _ 2 _ _ _ hSz.1; have c0_3 := cell_of_row _ _ 3 _ _ _ hSz.1; have c0_4 := cell_of_row _ _ 4 _ _ _ hSz.1; have c0_5 := cell_of_row _ _ 5 _ _ _ hSz.1; have c0_6 := cell_of_row _ _ 6 _ _ _ hSz.1; have c0_7 := cell_of_row _ _ 7 _ _ _ hSz.1; have c1_0 := cell_of_row _ _ 0 _ _ _ hSz.2.1; have c1_1 := cell_of_row _ _ 1 _ _ _ hSz.2.1; have c1_2 := cell_of_row _ _ 2 _ _ _ hSz.2.1; have c1_3 := cell_of_row _ _ 3 _ _ _ hSz.2.1; have c1_4 := cell_of_row _ _ 4 _ _ _ hSz.2.1; have c1_5 := cell_of_row _ _ 5 _ _ _ hSz.2.1; have c1_6 := cell_of_row _ _ 6 _ _ _ hSz.2.1; have c1_7 := cell_of_row _ _ 7 _ _ _ hSz.2.1; simp at c0_0 c0_1 c0_2 c0_3 c0_4 c0_5 c0_6 c0_7 c1_0 c1_1 c1_2 c1_3 c1_4 c1_5 c1_6 c1_7; have eSz := hSz.2.2.1; have eS2z := hSz.2.2.2.1; have ea1z := hSz.2.2.2.2.1; have ea2z := hSz.2.2.2.2.2.1; have ea3z := hSz.2.2.2.2.2.2.1; have eb1z := hSz.2.2.2.2.2.2.2.1; have eb2z := hSz.2.2.2.2.2.2.2.2.1; have eb3z := hSz.2.2.2.2.2.2.2.2.2; go_simp; try with_reducible rfl)⟩) hS0 ?_
  go_simp
  refine wpAnyH_take (i := 20) (v := ?_) rfl (by kernel_rfl) (by kernel_rfl) (by kernel_rfl) (fun _ _ _ h => h) (Or.inl ⟨by kernel_rfl, by (intro wz hSz; go_simp; try with_reducible rfl)⟩) hS0 ?_
  go_simp
  refine wpAnyH_take (i := 21) (v := ?_) rfl (by kernel_rfl) (by kernel_rfl) (by kernel_rfl) (fun _ _ _ h => h) (Or.inl ⟨by kernel_rfl, by (intro wz hSz; go_simp; try with_reducible rfl)⟩) hS0 ?_
  go_simp
  refine wpAnyH_done (by kernel_rfl) ?_ _
  go_upto_region 4 with fail
  have eS := hS0.2.2.1
  have eS2 := hS0.2.2.2.1
  have ea1 := hS0.2.2.2.2.1
  have ea2 := hS0.2.2.2.2.2.1
  have ea3 := hS0.2.2.2.2.2.2.1
  have eb1 := hS0.2.2.2.2.2.2.2.1
  have eb2 := hS0.2.2.2.2.2.2.2.2.1
  have eb3 := hS0.2.2.2.2.2.2.2.2.2
  refine wp_region_held_drew (S := fun y => y.heap[w.heap.size]? = some (.cells #[.int .i64 W, .int .i64 H, .slice al nl cl, .slice ad nd cd, .slice (some ⟨vb, vo, none⟩) nn cn, .slice ab nb cb, .slice (some ⟨xb, xo, none⟩) ns cx, .slice (some ⟨fb, fo, none⟩) nf cf] 29 (0, 0)) ∧ y.heap[w.heap.size + 1]? = some (.cells #[.int .i64 W2, .int .i64 H2, .slice al2 nl2 cl2, .slice ad2 nd2 cd2, .slice (some ⟨vb2, vo2, none⟩) nn2 cn2, .slice ab2 nb2 cb2, .slice (some ⟨xb2, xo2, none⟩) ns2 cx2, .slice af2 nf2 cf2] 29 (0, 0)) ∧ y.cell? ⟨vb, vo + i * 3, none⟩ = some (.int .i64 a1) ∧ y.cell? ⟨vb, vo + i * 3 + 1, none⟩ = some (.int .i64 a2) ∧ y.cell? ⟨vb, vo + i * 3 + 2, none⟩ = some (.int .i64 a3) ∧ y.cell? ⟨vb2, vo2 + k * 3, none⟩ = some (.int .i64 b1) ∧ y.cell? ⟨vb2, vo2 + k * 3 + 1, none⟩ = some (.int .i64 b2) ∧ y.cell? ⟨vb2, vo2 + k * 3 + 2, none⟩ = some (.int .i64 b3)) (by kernel_rfl) (⟨hr1_0, hr1_1, ea1, ea2, ea3, eb1, eb2, eb3⟩) (fun hS0 => ?_)
  obtain ⟨y2, hy2⟩ : ∃ y, y1.drew = y := ⟨_, rfl⟩
  have HU2 := Lib.hid (show Below w.heap.size w y2 by rw [← hy2]; exact HU1.out.drew)
  have hr2_0 : y2.heap[w.heap.size]? = some (.cells #[.int .i64 W, .int .i64 H, .slice al nl cl, .slice ad nd cd, .slice (some ⟨vb, vo, none⟩) nn cn, .slice ab nb cb, .slice (some ⟨xb, xo, none⟩) ns cx, .slice (some ⟨fb, fo, none⟩) nf cf] 29 (0, 0)) := by rw [← hy2]; exact hr1_0
  have hr2_1 : y2.heap[w.heap.size + 1]? = some (.cells #[.int .i64 W2, .int .i64 H2, .slice al2 nl2 cl2, .slice ad2 nd2 cd2, .slice (some ⟨vb2, vo2, none⟩) nn2 cn2, .slice ab2 nb2 cb2, .slice (some ⟨xb2, xo2, none⟩) ns2 cx2, .slice af2 nf2 cf2] 29 (0, 0)) := by rw [← hy2]; exact hr1_1
  rw [hy2] at hS0 ⊢
  clear hy2
  refine wpAnyH_take (i := 0) (v := ?_) rfl (by kernel_rfl) (by kernel_rfl) (by kernel_rfl) (fun _ _ _ h => h) (Or.inl ⟨by kernel_rfl, by (intro wz hSz; go_simp; try with_reducible rfl)⟩) hS0 ?_
  go_simp
  refine wpAnyH_take (i := 1) (v := ?_) rfl (by kernel_rfl) (by kernel_rfl) (by kernel_rfl) (fun _ _ _ h => h) (Or.inl ⟨by kernel_rfl, by (intro wz hSz; have c0_0 := cell_of_row _ _ 0 _ _ _ hSz.1; have c0_1 := cell_of_row _ _ 1 _ _ _ hSz.1; have c0_2 := cell_of_row _ _ 2 _ _ _ hSz.1; have c0_3 := cell_of_row _ _ 3 _ _ _ hSz.1; have c0_4 := cell_of_row _ _ 4 _ _ _ hSz.1; have c0_5 := cell_of_row _ _ 5 _ _ _ hSz.1; have c0_6 := cell_of_row _ _ 6 _ _ _ hSz.1; have c0_7 := cell_of_row _ _ 7 _ _ _ hSz.1; have c1_0 := cell_of_row _ _ 0 _ _ _ hSz.2.1; have c1_1 := cell_of_row _ _ 1 _ _ _ hSz.2.1; have c1_2 := cell_of_row _ _ 2 _ _ _ hSz.2.1; have c1_3 := cell_of_row _ _ 3 _ _ _ hSz.2.1; have c1_4 := cell_of_row _ _ 4 _ _ _ hSz.2.1; have c1_5 := cell_of_row _ _ 5 _ _ _ hSz.2.1; have c1_6 := cell_of_row _ _ 6 _ _ _ hSz.2.1; have c1_7 := cell_of_row _ _ 7 _ _ _ hSz.2.1; simp at c0_0 c0_1 c0_2 c0_3 c0_4 c0_5 c0_6 c0_7 c1_0 c1_1 c1_2 c1_3 c1_4 c1_5 c1_6 c1_7; have ea1z := hSz.2.2.1; have ea2z := hSz.2.2.2.1; have ea3z := hSz.2.2.2.2.1; have eb1z := hSz.2.2.2.2.2.1; have eb2z := hSz.2.2.2.2.2.2.1; have eb3z := hSz.2.2.2.2.2.2.2; go_simp; try with_reducible rfl)⟩) hS0 ?_
  go_simp
  refine wpAnyH_take (i := 2) (v := ?_) rfl (by kernel_rfl) (by kernel_rfl) (by kernel_rfl) (fun _ _ _ h => h) (Or.inl ⟨by kernel_rfl, by (intro wz hSz; go_simp; try with_reducible rfl)⟩) hS0 ?_
  go_simp
  refine wpAnyH_take (i := 3) (v := ?_) rfl (by kernel_rfl) (by kernel_rfl) (by kernel_rfl) (fun _ _ _ h => h) (Or.inl ⟨by kernel_rfl, by (intro wz hSz; go_simp; try with_reducible rfl)⟩) hS0 ?_
  go_simp
  refine wpAnyH_take (i := 4) (v := ?_) rfl (by kernel_rfl) (by kernel_rfl) (by kernel_rfl) (fun _ _ _ h => h) (Or.inl ⟨by kernel_rfl, by (intro wz hSz; have c0_0 := cell_of_row _ _ 0 _ _ _ hSz.1; have c0_1 := cell_of_row _ _ 1 _ _ _ hSz.1; have c0_2 := cell_of_row _ _ 2 _ _ _ hSz.1; have c0_3 := cell_of_row _ _ 3 _ _ _ hSz.1; have c0_4 := cell_of_row _ _ 4 _ _ _ hSz.1; have c0_5 := cell_of_row _ _ 5 _ _ _ hSz.1; have c0_6 := cell_of_row _ _ 6 _ _ _ hSz.1; have c0_7 := cell_of_row _ _ 7 _ _ _ hSz.1; have c1_0 := cell_of_row _ _ 0 _ _ _ hSz.2.1; have c1_1 := cell_of_row _ _ 1 _ _ _ hSz.2.1; have c1_2 := cell_of_row _ _ 2 _ _ _ hSz.2.1; have c1_3 := cell_of_row _ _ 3 _ _ _ hSz.2.1; have c1_4 := cell_of_row _ _ 4 _ _ _ hSz.2.1; have c1_5 := cell_of_row _ _ 5 _ _ _ hSz.2.1; have c1_6 := cell_of_row _ _ 6 _ _ _ hSz.2.1; have c1_7 := cell_of_row _ _ 7 _ _ _ hSz.2.1; simp at c0_0 c0_1 c0_2 c0_3 c0_4 c0_5 c0_6 c0_7 c1_0 c1_1 c1_2 c1_3 c1_4 c1_5 c1_6 c1_7; have ea1z := hSz.2.2.1; have ea2z := hSz.2.2.2.1; have ea3z := hSz.2.2.2.2.1; have eb1z := hSz.2.2.2.2.2.1; have eb2z := hSz.2.2.2.2.2.2.1; have eb3z := hSz.2.2.2.2.2.2.2; go_simp; try with_reducible rfl)⟩) hS0 ?_
  go_simp
  refine wpAnyH_take (i := 5) (v := ?_) rfl (by kernel_rfl) (by kernel_rfl) (by kernel_rfl) (fun _ _ _ h => h) (Or.inl ⟨by kernel_rfl, by (intro wz hSz; go_simp; try with_reducible rfl)⟩) hS0 ?_
  go_simp
  refine wpAnyH_take (i := 6) (v := ?_) rfl (by kernel_rfl) (by kernel_rfl) (by kernel_rfl) (fun _ _ _ h => h) (Or.inl ⟨by kernel_rfl, by (intro wz hSz; have c0_0 := cell_of_row _ _ 0 _ _ _ hSz.1; have c0_1 := cell_of_row _ _ 1 _ _ _ hSz.1; have c0_2 := cell_of_row _ _ 2 _ _ _ hSz.1; have c0_3 := cell_of_row _ _ 3 _ _ _ hSz.1; have c0_4 := cell_of_row _ _ 4 _ _ _ hSz.1; have c0_5 := cell_of_row _ _ 5 _ _ _ hSz.1; have c0_6 := cell_of_row _ _ 6 _ _ _ hSz.1; have c0_7 := cell_of_row _ _ 7 _ _ _ hSz.1; have c1_0 := cell_of_row _ _ 0 _ _ _ hSz.2.1; have c1_1 := cell_of_row _ _ 1 _ _ _ hSz.2.1; have c1_2 := cell_of_row _ _ 2 _ _ _ hSz.2.1; have c1_3 := cell_of_row _ _ 3 _ _ _ hSz.2.1; have c1_4 := cell_of_row _ _ 4 _ _ _ hSz.2.1; have c1_5 := cell_of_row _ _ 5 _ _ _ hSz.2.1; have c1_6 := cell_of_row _ _ 6 _ _ _ hSz.2.1; have c1_7 := cell_of_row _ _ 7 _ _ _ hSz.2.1; simp at c0_0 c0_1 c0_2 c0_3 c0_4 c0_5 c0_6 c0_7 c1_0 c1_1 c1_2 c1_3 c1_4 c1_5 c1_6 c1_7; have ea1z := hSz.2.2.1; have ea2z := hSz.2.2.2.1; have ea3z := hSz.2.2.2.2.1; have eb1z := hSz.2.2.2.2.2.1; have eb2z := hSz.2.2.2.2.2.2.1; have eb3z := hSz.2.2.2.2.2.2.2; go_simp; try with_reducible rfl)⟩) hS0 ?_
  go_simp
  refine wpAnyH_take (i := 7) (v := ?_) rfl (by kernel_rfl) (by kernel_rfl) (by kernel_rfl) (fun _ _ _ h => h) (Or.inl ⟨by kernel_rfl, by (intro wz hSz; go_simp; try with_reducible rfl)⟩) hS0 ?_
  go_simp
  refine wpAnyH_take (i := 8) (v := ?_) rfl (by kernel_rfl) (by kernel_rfl) (by kernel_rfl) (fun _ _ _ h => h) (Or.inl ⟨by kernel_rfl, by (intro wz hSz; go_simp; try with_reducible rfl)⟩) hS0 ?_
  go_simp
  refine wpAnyH_take (i := 9) (v := ?_) rfl (by kernel_rfl) (by kernel_rfl) (by kernel_rfl) (fun _ _ _ h => h) (Or.inl ⟨by kernel_rfl, by (intro wz hSz; have c0_0 := cell_of_row _ _ 0 _ _ _ hSz.1; have c0_1 := cell_of_row _ _ 1 _ _ _ hSz.1; have c0_2 := cell_of_row _ _ 2 _ _ _ hSz.1; have c0_3 := cell_of_row _ _ 3 _ _ _ hSz.1; have c0_4 := cell_of_row _ _ 4 _ _ _ hSz.1; have c0_5 := cell_of_row _ _ 5 _ _ _ hSz.1; have c0_6 := cell_of_row _ _ 6 _ _ _ hSz.1; have c0_7 := cell_of_row _ _ 7 _ _ _ hSz.1; have c1_0 := cell_of_row _ _ 0 _ _ _ hSz.2.1; have c1_1 := cell_of_row _ _ 1 _ _ _ hSz.2.1; have c1_2 := cell_of_row _ _ 2 _ _ _ hSz.2.1; have c1_3 := cell_of_row _ _ 3 _ _ _ hSz.2.1; have c1_4 := cell_of_row _ _ 4 _ _ _ hSz.2.1; have c1_5 := cell_of_row _ _ 5 _ _ _ hSz.2.1; have c1_6 := cell_of_row _ _ 6 _ _ _ hSz.2.1; have c1_7 := cell_of_row _ _ 7 _ _ _ hSz.2.1; simp at c0_0 c0_1 c0_2 c0_3 c0_4 c0_5 c0_6 c0_7 c1_0 c1_1 c1_2 c1_3 c1_4 c1_5 c1_6 c1_7; have ea1z := hSz.2.2.1; have ea2z := hSz.2.2.2.1; have ea3z := hSz.2.2.2.2.1; have eb1z := hSz.2.2.2.2.2.1; have eb2z := hSz.2.2.2.2.2.2.1; have eb3z := hSz.2.2.2.2.2.2.2; go_simp; try with_reducible rfl)⟩) hS0 ?_
  go_simp
  refine wpAnyH_ready (rs := [10]) (by kernel_rfl) (by simp) ?_
  refine AllReadyH.cons rfl (fun K hK => ?_) AllReadyH.nil
  go_simp
  go_wp2_with (go_at_call 40; refine (hT _).mono ?_; rintro e y3 ⟨rfl, hb3⟩)
  have hr3_0 := (hb3.block _ (lt_heap hr2_0)).trans hr2_0
  have hr3_1 := (hb3.block _ (lt_heap hr2_1)).trans hr2_1
  have HU3 := Lib.hid (HU2.out.trans (hb3.mono HU2.out.size))
  refine hK.out _ _ (⟨(hb3.block _ (lt_heap hS0.1)).trans hS0.1, (hb3.block _ (lt_heap hS0.2.1)).trans hS0.2.1, (hb3.cell (p := ⟨vb, vo + i * 3, none⟩) (World.block_lt_of_cell? _ _ (hS0.2.2.1))).trans hS0.2.2.1, (hb3.cell (p := ⟨vb, vo + i * 3 + 1, none⟩) (World.block_lt_of_cell? _ _ (hS0.2.2.2.1))).trans hS0.2.2.2.1, (hb3.cell (p := ⟨vb, vo + i * 3 + 2, none⟩) (World.block_lt_of_cell? _ _ (hS0.2.2.2.2.1))).trans hS0.2.2.2.2.1, (hb3.cell (p := ⟨vb2, vo2 + k * 3, none⟩) (World.block_lt_of_cell? _ _ (hS0.2.2.2.2.2.1))).trans hS0.2.2.2.2.2.1, (hb3.cell (p := ⟨vb2, vo2 + k * 3 + 1, none⟩) (World.block_lt_of_cell? _ _ (hS0.2.2.2.2.2.2.1))).trans hS0.2.2.2.2.2.2.1, (hb3.cell (p := ⟨vb2, vo2 + k * 3 + 2, none⟩) (World.block_lt_of_cell? _ _ (hS0.2.2.2.2.2.2.2))).trans hS0.2.2.2.2.2.2.2⟩) (fun hS3c => ?_)
  clear hK K
  refine wpAnyH_take (i := 11) (v := ?_) rfl (by kernel_rfl) (by kernel_rfl) (by kernel_rfl) (fun _ _ _ h => h) (Or.inl ⟨by kernel_rfl, by (intro wz hSz; go_simp; try with_reducible rfl)⟩) hS3c ?_
  go_simp
  refine wpAnyH_done (by kernel_rfl) ?_ _
  go_wp2
  go_ret
  exact ⟨rfl, HU3.out⟩

end Go.Proofs.Ytgpbnpnnbipfpaa.Fm
