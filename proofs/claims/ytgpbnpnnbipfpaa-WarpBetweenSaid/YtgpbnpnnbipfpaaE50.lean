/- Films mixed, by the program: what the laws share. -/
import Derived.Test.YtgpbnpnnbipfpaaE49
namespace Go.Proofs.Ytgpbnpnnbipfpaa.Fm
open Go Go.RowKit Go.Proofs.Ytgpbnpnnbipfpaa Go.Proofs.Ytgpbnpnnbipfpaa.Rp Go.Proofs.Ytgpbnpnnbipfpaa.Re Go.Proofs.Ytgpbnpnnbipfpaa.Au Go.Proofs.Ytgpbnpnnbipfpaa.Jw
set_option linter.unusedVariables false
set_option linter.unusedSimpArgs false

theorem rows5 (w : World) (a b c d e : Obj) : (((((w.alloc a).alloc b).alloc c).alloc d).alloc e).heap[w.heap.size]? = some a ∧ (((((w.alloc a).alloc b).alloc c).alloc d).alloc e).heap[w.heap.size + 1]? = some b ∧ (((((w.alloc a).alloc b).alloc c).alloc d).alloc e).heap[w.heap.size + 1 + 1]? = some c ∧ (((((w.alloc a).alloc b).alloc c).alloc d).alloc e).heap[w.heap.size + 1 + 1 + 1]? = some d ∧ (((((w.alloc a).alloc b).alloc c).alloc d).alloc e).heap[w.heap.size + 1 + 1 + 1 + 1]? = some e :=
  ⟨old _ (rows4 w a b c d).1, old _ (rows4 w a b c d).2.1, old _ (rows4 w a b c d).2.2.1, old _ (rows4 w a b c d).2.2.2, by have h := rows1 ((((w.alloc a).alloc b).alloc c).alloc d) e; rwa [show ((((w.alloc a).alloc b).alloc c).alloc d).heap.size = w.heap.size + 1 + 1 + 1 + 1 by simp] at h⟩

theorem rows6 (w : World) (a b c d e f : Obj) : ((((((w.alloc a).alloc b).alloc c).alloc d).alloc e).alloc f).heap[w.heap.size]? = some a ∧ ((((((w.alloc a).alloc b).alloc c).alloc d).alloc e).alloc f).heap[w.heap.size + 1]? = some b ∧ ((((((w.alloc a).alloc b).alloc c).alloc d).alloc e).alloc f).heap[w.heap.size + 1 + 1]? = some c ∧ ((((((w.alloc a).alloc b).alloc c).alloc d).alloc e).alloc f).heap[w.heap.size + 1 + 1 + 1]? = some d ∧ ((((((w.alloc a).alloc b).alloc c).alloc d).alloc e).alloc f).heap[w.heap.size + 1 + 1 + 1 + 1]? = some e ∧ ((((((w.alloc a).alloc b).alloc c).alloc d).alloc e).alloc f).heap[w.heap.size + 1 + 1 + 1 + 1 + 1]? = some f :=
  ⟨old _ (rows5 w a b c d e).1, old _ (rows5 w a b c d e).2.1, old _ (rows5 w a b c d e).2.2.1, old _ (rows5 w a b c d e).2.2.2.1, old _ (rows5 w a b c d e).2.2.2.2, by have h := rows1 (((((w.alloc a).alloc b).alloc c).alloc d).alloc e) f; rwa [show (((((w.alloc a).alloc b).alloc c).alloc d).alloc e).heap.size = w.heap.size + 1 + 1 + 1 + 1 + 1 by simp] at h⟩

theorem rows7 (w : World) (a b c d e f g : Obj) : (((((((w.alloc a).alloc b).alloc c).alloc d).alloc e).alloc f).alloc g).heap[w.heap.size]? = some a ∧ (((((((w.alloc a).alloc b).alloc c).alloc d).alloc e).alloc f).alloc g).heap[w.heap.size + 1]? = some b ∧ (((((((w.alloc a).alloc b).alloc c).alloc d).alloc e).alloc f).alloc g).heap[w.heap.size + 1 + 1]? = some c ∧ (((((((w.alloc a).alloc b).alloc c).alloc d).alloc e).alloc f).alloc g).heap[w.heap.size + 1 + 1 + 1]? = some d ∧ (((((((w.alloc a).alloc b).alloc c).alloc d).alloc e).alloc f).alloc g).heap[w.heap.size + 1 + 1 + 1 + 1]? = some e ∧ (((((((w.alloc a).alloc b).alloc c).alloc d).alloc e).alloc f).alloc g).heap[w.heap.size + 1 + 1 + 1 + 1 + 1]? = some f ∧ (((((((w.alloc a).alloc b).alloc c).alloc d).alloc e).alloc f).alloc g).heap[w.heap.size + 1 + 1 + 1 + 1 + 1 + 1]? = some g :=
  ⟨old _ (rows6 w a b c d e f).1, old _ (rows6 w a b c d e f).2.1, old _ (rows6 w a b c d e f).2.2.1, old _ (rows6 w a b c d e f).2.2.2.1, old _ (rows6 w a b c d e f).2.2.2.2.1, old _ (rows6 w a b c d e f).2.2.2.2.2, by have h := rows1 ((((((w.alloc a).alloc b).alloc c).alloc d).alloc e).alloc f) g; rwa [show ((((((w.alloc a).alloc b).alloc c).alloc d).alloc e).alloc f).heap.size = w.heap.size + 1 + 1 + 1 + 1 + 1 + 1 by simp] at h⟩

theorem below_m5 (w : World) (a b c d e : Obj) : Below w.heap.size w (((((w.alloc a).alloc b).alloc c).alloc d).alloc e) := (Ve.below_n4 w a b c d).alloc (by simp; try omega) e

theorem below_m6 (w : World) (a b c d e f : Obj) : Below w.heap.size w ((((((w.alloc a).alloc b).alloc c).alloc d).alloc e).alloc f) := (below_m5 w a b c d e).alloc (by simp; try omega) f

theorem below_m7 (w : World) (a b c d e f g : Obj) : Below w.heap.size w (((((((w.alloc a).alloc b).alloc c).alloc d).alloc e).alloc f).alloc g) := (below_m6 w a b c d e f).alloc (by simp; try omega) g

set_option maxHeartbeats 2000000 in
set_option maxRecDepth 100000 in
theorem light_0 (W H W2 H2 : Int) (al ad an ab ax af al2 ad2 an2 ab2 ax2 af2 : Option Addr) (cl cd cn cb cx cf nl nd nn nb ns nf cl2 cd2 cn2 cb2 cx2 cf2 nl2 nd2 nn2 nb2 ns2 nf2 : Nat) (lg : Nat) (w : World) (hg : w.heap[lg]? = some (.cells #[.int .i64 W, .int .i64 H, .slice al nl cl, .slice ad nd cd, .slice an nn cn, .slice ab nb cb, .slice ax ns cx, .slice af nf cf, .int .i64 W2, .int .i64 H2, .slice al2 nl2 cl2, .slice ad2 nd2 cd2, .slice an2 nn2 cn2, .slice ab2 nb2 cb2, .slice ax2 ns2 cx2, .slice af2 nf2 cf2] 29 (0, 0))) (k0 : 5000 < nl) : Calls Try.prog 5 #[.slice (some ⟨lg, 0, none⟩) 2 2] w fun e' w' => e' = .returned (.bool false) ∧ Below w.heap.size w w' := by
  have d0 := decide_eq_true (show (5000 : Int) < (nl : Int) by omega)
  clear k0
  have hlw := lt_heap hg
  have c0 := cell_of_row _ _ 0 _ _ _ hg
  have c1 := cell_of_row _ _ 1 _ _ _ hg
  have c2 := cell_of_row _ _ 2 _ _ _ hg
  have c3 := cell_of_row _ _ 3 _ _ _ hg
  have c4 := cell_of_row _ _ 4 _ _ _ hg
  have c5 := cell_of_row _ _ 5 _ _ _ hg
  have c6 := cell_of_row _ _ 6 _ _ _ hg
  have c7 := cell_of_row _ _ 7 _ _ _ hg
  have c8 := cell_of_row _ _ 8 _ _ _ hg
  have c9 := cell_of_row _ _ 9 _ _ _ hg
  have c10 := cell_of_row _ _ 10 _ _ _ hg
  have c11 := cell_of_row _ _ 11 _ _ _ hg
  have c12 := cell_of_row _ _ 12 _ _ _ hg
  have c13 := cell_of_row _ _ 13 _ _ _ hg
  have c14 := cell_of_row _ _ 14 _ _ _ hg
  have c15 := cell_of_row _ _ 15 _ _ _ hg
  simp at c0 c1 c2 c3 c4 c5 c6 c7 c8 c9 c10 c11 c12 c13 c14 c15
  go_enter Try.func5, Try.ntmps5
  go_wp2
  refine wp_loop_rounds 3 ?_
  rw [rounds_succ]
  go_wp2_with fail
  go_ret
  exact ⟨rfl, Ve.below_n1 _ _⟩

set_option maxHeartbeats 2000000 in
set_option maxRecDepth 100000 in
theorem light_1 (W H W2 H2 : Int) (al ad an ab ax af al2 ad2 an2 ab2 ax2 af2 : Option Addr) (cl cd cn cb cx cf nl nd nn nb ns nf cl2 cd2 cn2 cb2 cx2 cf2 nl2 nd2 nn2 nb2 ns2 nf2 : Nat) (lg : Nat) (w : World) (hg : w.heap[lg]? = some (.cells #[.int .i64 W, .int .i64 H, .slice al nl cl, .slice ad nd cd, .slice an nn cn, .slice ab nb cb, .slice ax ns cx, .slice af nf cf, .int .i64 W2, .int .i64 H2, .slice al2 nl2 cl2, .slice ad2 nd2 cd2, .slice an2 nn2 cn2, .slice ab2 nb2 cb2, .slice ax2 ns2 cx2, .slice af2 nf2 cf2] 29 (0, 0))) (k0 : ¬ 5000 < nl) (k1 : 5000 < ns) : Calls Try.prog 5 #[.slice (some ⟨lg, 0, none⟩) 2 2] w fun e' w' => e' = .returned (.bool false) ∧ Below w.heap.size w w' := by
  have d0 := decide_eq_false (show ¬ (5000 : Int) < (nl : Int) by omega)
  clear k0
  have d1 := decide_eq_true (show (5000 : Int) < (ns : Int) by omega)
  clear k1
  have hlw := lt_heap hg
  have c0 := cell_of_row _ _ 0 _ _ _ hg
  have c1 := cell_of_row _ _ 1 _ _ _ hg
  have c2 := cell_of_row _ _ 2 _ _ _ hg
  have c3 := cell_of_row _ _ 3 _ _ _ hg
  have c4 := cell_of_row _ _ 4 _ _ _ hg
  have c5 := cell_of_row _ _ 5 _ _ _ hg
  have c6 := cell_of_row _ _ 6 _ _ _ hg
  have c7 := cell_of_row _ _ 7 _ _ _ hg
  have c8 := cell_of_row _ _ 8 _ _ _ hg
  have c9 := cell_of_row _ _ 9 _ _ _ hg
  have c10 := cell_of_row _ _ 10 _ _ _ hg
  have c11 := cell_of_row _ _ 11 _ _ _ hg
  have c12 := cell_of_row _ _ 12 _ _ _ hg
  have c13 := cell_of_row _ _ 13 _ _ _ hg
  have c14 := cell_of_row _ _ 14 _ _ _ hg
  have c15 := cell_of_row _ _ 15 _ _ _ hg
  simp at c0 c1 c2 c3 c4 c5 c6 c7 c8 c9 c10 c11 c12 c13 c14 c15
  go_enter Try.func5, Try.ntmps5
  go_wp2
  refine wp_loop_rounds 3 ?_
  rw [rounds_succ]
  go_wp2_with fail
  go_ret
  exact ⟨rfl, Ve.below_n1 _ _⟩

set_option maxHeartbeats 2000000 in
set_option maxRecDepth 100000 in
theorem light_2 (W H W2 H2 : Int) (al ad an ab ax af al2 ad2 an2 ab2 ax2 af2 : Option Addr) (cl cd cn cb cx cf nl nd nn nb ns nf cl2 cd2 cn2 cb2 cx2 cf2 nl2 nd2 nn2 nb2 ns2 nf2 : Nat) (lg : Nat) (w : World) (hg : w.heap[lg]? = some (.cells #[.int .i64 W, .int .i64 H, .slice al nl cl, .slice ad nd cd, .slice an nn cn, .slice ab nb cb, .slice ax ns cx, .slice af nf cf, .int .i64 W2, .int .i64 H2, .slice al2 nl2 cl2, .slice ad2 nd2 cd2, .slice an2 nn2 cn2, .slice ab2 nb2 cb2, .slice ax2 ns2 cx2, .slice af2 nf2 cf2] 29 (0, 0))) (k0 : ¬ 5000 < nl) (k1 : ¬ 5000 < ns) (k2 : 5000 < nf) : Calls Try.prog 5 #[.slice (some ⟨lg, 0, none⟩) 2 2] w fun e' w' => e' = .returned (.bool false) ∧ Below w.heap.size w w' := by
  have d0 := decide_eq_false (show ¬ (5000 : Int) < (nl : Int) by omega)
  clear k0
  have d1 := decide_eq_false (show ¬ (5000 : Int) < (ns : Int) by omega)
  clear k1
  have d2 := decide_eq_true (show (5000 : Int) < (nf : Int) by omega)
  clear k2
  have hlw := lt_heap hg
  have c0 := cell_of_row _ _ 0 _ _ _ hg
  have c1 := cell_of_row _ _ 1 _ _ _ hg
  have c2 := cell_of_row _ _ 2 _ _ _ hg
  have c3 := cell_of_row _ _ 3 _ _ _ hg
  have c4 := cell_of_row _ _ 4 _ _ _ hg
  have c5 := cell_of_row _ _ 5 _ _ _ hg
  have c6 := cell_of_row _ _ 6 _ _ _ hg
  have c7 := cell_of_row _ _ 7 _ _ _ hg
  have c8 := cell_of_row _ _ 8 _ _ _ hg
  have c9 := cell_of_row _ _ 9 _ _ _ hg
  have c10 := cell_of_row _ _ 10 _ _ _ hg
  have c11 := cell_of_row _ _ 11 _ _ _ hg
  have c12 := cell_of_row _ _ 12 _ _ _ hg
  have c13 := cell_of_row _ _ 13 _ _ _ hg
  have c14 := cell_of_row _ _ 14 _ _ _ hg
  have c15 := cell_of_row _ _ 15 _ _ _ hg
  simp at c0 c1 c2 c3 c4 c5 c6 c7 c8 c9 c10 c11 c12 c13 c14 c15
  go_enter Try.func5, Try.ntmps5
  go_wp2
  refine wp_loop_rounds 3 ?_
  rw [rounds_succ]
  go_wp2_with fail
  go_ret
  exact ⟨rfl, Ve.below_n1 _ _⟩

set_option maxHeartbeats 2000000 in
set_option maxRecDepth 100000 in
theorem light_3 (W H W2 H2 : Int) (al ad an ab ax af al2 ad2 an2 ab2 ax2 af2 : Option Addr) (cl cd cn cb cx cf nl nd nn nb ns nf cl2 cd2 cn2 cb2 cx2 cf2 nl2 nd2 nn2 nb2 ns2 nf2 : Nat) (lg : Nat) (w : World) (hg : w.heap[lg]? = some (.cells #[.int .i64 W, .int .i64 H, .slice al nl cl, .slice ad nd cd, .slice an nn cn, .slice ab nb cb, .slice ax ns cx, .slice af nf cf, .int .i64 W2, .int .i64 H2, .slice al2 nl2 cl2, .slice ad2 nd2 cd2, .slice an2 nn2 cn2, .slice ab2 nb2 cb2, .slice ax2 ns2 cx2, .slice af2 nf2 cf2] 29 (0, 0))) (k0 : ¬ 5000 < nl) (k1 : ¬ 5000 < ns) (k2 : ¬ 5000 < nf) (k3 : 5000 < nl2) : Calls Try.prog 5 #[.slice (some ⟨lg, 0, none⟩) 2 2] w fun e' w' => e' = .returned (.bool false) ∧ Below w.heap.size w w' := by
  have d0 := decide_eq_false (show ¬ (5000 : Int) < (nl : Int) by omega)
  clear k0
  have d1 := decide_eq_false (show ¬ (5000 : Int) < (ns : Int) by omega)
  clear k1
  have d2 := decide_eq_false (show ¬ (5000 : Int) < (nf : Int) by omega)
  clear k2
  have d3 := decide_eq_true (show (5000 : Int) < (nl2 : Int) by omega)
  clear k3
  have hlw := lt_heap hg
  have c0 := cell_of_row _ _ 0 _ _ _ hg
  have c1 := cell_of_row _ _ 1 _ _ _ hg
  have c2 := cell_of_row _ _ 2 _ _ _ hg
  have c3 := cell_of_row _ _ 3 _ _ _ hg
  have c4 := cell_of_row _ _ 4 _ _ _ hg
  have c5 := cell_of_row _ _ 5 _ _ _ hg
  have c6 := cell_of_row _ _ 6 _ _ _ hg
  have c7 := cell_of_row _ _ 7 _ _ _ hg
  have c8 := cell_of_row _ _ 8 _ _ _ hg
  have c9 := cell_of_row _ _ 9 _ _ _ hg
  have c10 := cell_of_row _ _ 10 _ _ _ hg
  have c11 := cell_of_row _ _ 11 _ _ _ hg
  have c12 := cell_of_row _ _ 12 _ _ _ hg
  have c13 := cell_of_row _ _ 13 _ _ _ hg
  have c14 := cell_of_row _ _ 14 _ _ _ hg
  have c15 := cell_of_row _ _ 15 _ _ _ hg
  simp at c0 c1 c2 c3 c4 c5 c6 c7 c8 c9 c10 c11 c12 c13 c14 c15
  go_enter Try.func5, Try.ntmps5
  go_wp2
  refine wp_loop_rounds 3 ?_
  rw [rounds_succ]
  go_wp2_with fail
  rw [rounds_succ]
  go_wp2_with fail
  go_ret
  exact ⟨rfl, Ve.below_n2 _ _ _⟩

set_option maxHeartbeats 2000000 in
set_option maxRecDepth 100000 in
theorem light_4 (W H W2 H2 : Int) (al ad an ab ax af al2 ad2 an2 ab2 ax2 af2 : Option Addr) (cl cd cn cb cx cf nl nd nn nb ns nf cl2 cd2 cn2 cb2 cx2 cf2 nl2 nd2 nn2 nb2 ns2 nf2 : Nat) (lg : Nat) (w : World) (hg : w.heap[lg]? = some (.cells #[.int .i64 W, .int .i64 H, .slice al nl cl, .slice ad nd cd, .slice an nn cn, .slice ab nb cb, .slice ax ns cx, .slice af nf cf, .int .i64 W2, .int .i64 H2, .slice al2 nl2 cl2, .slice ad2 nd2 cd2, .slice an2 nn2 cn2, .slice ab2 nb2 cb2, .slice ax2 ns2 cx2, .slice af2 nf2 cf2] 29 (0, 0))) (k0 : ¬ 5000 < nl) (k1 : ¬ 5000 < ns) (k2 : ¬ 5000 < nf) (k3 : ¬ 5000 < nl2) (k4 : 5000 < ns2) : Calls Try.prog 5 #[.slice (some ⟨lg, 0, none⟩) 2 2] w fun e' w' => e' = .returned (.bool false) ∧ Below w.heap.size w w' := by
  have d0 := decide_eq_false (show ¬ (5000 : Int) < (nl : Int) by omega)
  clear k0
  have d1 := decide_eq_false (show ¬ (5000 : Int) < (ns : Int) by omega)
  clear k1
  have d2 := decide_eq_false (show ¬ (5000 : Int) < (nf : Int) by omega)
  clear k2
  have d3 := decide_eq_false (show ¬ (5000 : Int) < (nl2 : Int) by omega)
  clear k3
  have d4 := decide_eq_true (show (5000 : Int) < (ns2 : Int) by omega)
  clear k4
  have hlw := lt_heap hg
  have c0 := cell_of_row _ _ 0 _ _ _ hg
  have c1 := cell_of_row _ _ 1 _ _ _ hg
  have c2 := cell_of_row _ _ 2 _ _ _ hg
  have c3 := cell_of_row _ _ 3 _ _ _ hg
  have c4 := cell_of_row _ _ 4 _ _ _ hg
  have c5 := cell_of_row _ _ 5 _ _ _ hg
  have c6 := cell_of_row _ _ 6 _ _ _ hg
  have c7 := cell_of_row _ _ 7 _ _ _ hg
  have c8 := cell_of_row _ _ 8 _ _ _ hg
  have c9 := cell_of_row _ _ 9 _ _ _ hg
  have c10 := cell_of_row _ _ 10 _ _ _ hg
  have c11 := cell_of_row _ _ 11 _ _ _ hg
  have c12 := cell_of_row _ _ 12 _ _ _ hg
  have c13 := cell_of_row _ _ 13 _ _ _ hg
  have c14 := cell_of_row _ _ 14 _ _ _ hg
  have c15 := cell_of_row _ _ 15 _ _ _ hg
  simp at c0 c1 c2 c3 c4 c5 c6 c7 c8 c9 c10 c11 c12 c13 c14 c15
  go_enter Try.func5, Try.ntmps5
  go_wp2
  refine wp_loop_rounds 3 ?_
  rw [rounds_succ]
  go_wp2_with fail
  rw [rounds_succ]
  go_wp2_with fail
  go_ret
  exact ⟨rfl, Ve.below_n2 _ _ _⟩

set_option maxHeartbeats 2000000 in
set_option maxRecDepth 100000 in
theorem light_5 (W H W2 H2 : Int) (al ad an ab ax af al2 ad2 an2 ab2 ax2 af2 : Option Addr) (cl cd cn cb cx cf nl nd nn nb ns nf cl2 cd2 cn2 cb2 cx2 cf2 nl2 nd2 nn2 nb2 ns2 nf2 : Nat) (lg : Nat) (w : World) (hg : w.heap[lg]? = some (.cells #[.int .i64 W, .int .i64 H, .slice al nl cl, .slice ad nd cd, .slice an nn cn, .slice ab nb cb, .slice ax ns cx, .slice af nf cf, .int .i64 W2, .int .i64 H2, .slice al2 nl2 cl2, .slice ad2 nd2 cd2, .slice an2 nn2 cn2, .slice ab2 nb2 cb2, .slice ax2 ns2 cx2, .slice af2 nf2 cf2] 29 (0, 0))) (k0 : ¬ 5000 < nl) (k1 : ¬ 5000 < ns) (k2 : ¬ 5000 < nf) (k3 : ¬ 5000 < nl2) (k4 : ¬ 5000 < ns2) (k5 : 5000 < nf2) : Calls Try.prog 5 #[.slice (some ⟨lg, 0, none⟩) 2 2] w fun e' w' => e' = .returned (.bool false) ∧ Below w.heap.size w w' := by
  have d0 := decide_eq_false (show ¬ (5000 : Int) < (nl : Int) by omega)
  clear k0
  have d1 := decide_eq_false (show ¬ (5000 : Int) < (ns : Int) by omega)
  clear k1
  have d2 := decide_eq_false (show ¬ (5000 : Int) < (nf : Int) by omega)
  clear k2
  have d3 := decide_eq_false (show ¬ (5000 : Int) < (nl2 : Int) by omega)
  clear k3
  have d4 := decide_eq_false (show ¬ (5000 : Int) < (ns2 : Int) by omega)
  clear k4
  have d5 := decide_eq_true (show (5000 : Int) < (nf2 : Int) by omega)
  clear k5
  have hlw := lt_heap hg
  have c0 := cell_of_row _ _ 0 _ _ _ hg
  have c1 := cell_of_row _ _ 1 _ _ _ hg
  have c2 := cell_of_row _ _ 2 _ _ _ hg
  have c3 := cell_of_row _ _ 3 _ _ _ hg
  have c4 := cell_of_row _ _ 4 _ _ _ hg
  have c5 := cell_of_row _ _ 5 _ _ _ hg
  have c6 := cell_of_row _ _ 6 _ _ _ hg
  have c7 := cell_of_row _ _ 7 _ _ _ hg
  have c8 := cell_of_row _ _ 8 _ _ _ hg
  have c9 := cell_of_row _ _ 9 _ _ _ hg
  have c10 := cell_of_row _ _ 10 _ _ _ hg
  have c11 := cell_of_row _ _ 11 _ _ _ hg
  have c12 := cell_of_row _ _ 12 _ _ _ hg
  have c13 := cell_of_row _ _ 13 _ _ _ hg
  have c14 := cell_of_row _ _ 14 _ _ _ hg
  have c15 := cell_of_row _ _ 15 _ _ _ hg
  simp at c0 c1 c2 c3 c4 c5 c6 c7 c8 c9 c10 c11 c12 c13 c14 c15
  go_enter Try.func5, Try.ntmps5
  go_wp2
  refine wp_loop_rounds 3 ?_
  rw [rounds_succ]
  go_wp2_with fail
  rw [rounds_succ]
  go_wp2_with fail
  go_ret
  exact ⟨rfl, Ve.below_n2 _ _ _⟩

set_option maxHeartbeats 2000000 in
set_option maxRecDepth 100000 in
theorem light_6 (W H W2 H2 : Int) (al ad an ab ax af al2 ad2 an2 ab2 ax2 af2 : Option Addr) (cl cd cn cb cx cf nl nd nn nb ns nf cl2 cd2 cn2 cb2 cx2 cf2 nl2 nd2 nn2 nb2 ns2 nf2 : Nat) (lg : Nat) (w : World) (hg : w.heap[lg]? = some (.cells #[.int .i64 W, .int .i64 H, .slice al nl cl, .slice ad nd cd, .slice an nn cn, .slice ab nb cb, .slice ax ns cx, .slice af nf cf, .int .i64 W2, .int .i64 H2, .slice al2 nl2 cl2, .slice ad2 nd2 cd2, .slice an2 nn2 cn2, .slice ab2 nb2 cb2, .slice ax2 ns2 cx2, .slice af2 nf2 cf2] 29 (0, 0))) (k0 : ¬ 5000 < nl) (k1 : ¬ 5000 < ns) (k2 : ¬ 5000 < nf) (k3 : ¬ 5000 < nl2) (k4 : ¬ 5000 < ns2) (k5 : ¬ 5000 < nf2) : Calls Try.prog 5 #[.slice (some ⟨lg, 0, none⟩) 2 2] w fun e' w' => e' = .returned (.bool true) ∧ Below w.heap.size w w' := by
  have d0 := decide_eq_false (show ¬ (5000 : Int) < (nl : Int) by omega)
  clear k0
  have d1 := decide_eq_false (show ¬ (5000 : Int) < (ns : Int) by omega)
  clear k1
  have d2 := decide_eq_false (show ¬ (5000 : Int) < (nf : Int) by omega)
  clear k2
  have d3 := decide_eq_false (show ¬ (5000 : Int) < (nl2 : Int) by omega)
  clear k3
  have d4 := decide_eq_false (show ¬ (5000 : Int) < (ns2 : Int) by omega)
  clear k4
  have d5 := decide_eq_false (show ¬ (5000 : Int) < (nf2 : Int) by omega)
  clear k5
  have hlw := lt_heap hg
  have c0 := cell_of_row _ _ 0 _ _ _ hg
  have c1 := cell_of_row _ _ 1 _ _ _ hg
  have c2 := cell_of_row _ _ 2 _ _ _ hg
  have c3 := cell_of_row _ _ 3 _ _ _ hg
  have c4 := cell_of_row _ _ 4 _ _ _ hg
  have c5 := cell_of_row _ _ 5 _ _ _ hg
  have c6 := cell_of_row _ _ 6 _ _ _ hg
  have c7 := cell_of_row _ _ 7 _ _ _ hg
  have c8 := cell_of_row _ _ 8 _ _ _ hg
  have c9 := cell_of_row _ _ 9 _ _ _ hg
  have c10 := cell_of_row _ _ 10 _ _ _ hg
  have c11 := cell_of_row _ _ 11 _ _ _ hg
  have c12 := cell_of_row _ _ 12 _ _ _ hg
  have c13 := cell_of_row _ _ 13 _ _ _ hg
  have c14 := cell_of_row _ _ 14 _ _ _ hg
  have c15 := cell_of_row _ _ 15 _ _ _ hg
  simp at c0 c1 c2 c3 c4 c5 c6 c7 c8 c9 c10 c11 c12 c13 c14 c15
  go_enter Try.func5, Try.ntmps5
  go_wp2
  refine wp_loop_rounds 3 ?_
  rw [rounds_succ]
  go_wp2_with fail
  rw [rounds_succ]
  go_wp2_with fail
  rw [rounds_succ]
  go_wp2
  go_ret
  exact ⟨rfl, Ve.below_n2 _ _ _⟩

theorem eq_hue (x y z : Int) (w : World) : (Op.equalIn 10000 62 (.agg #[.int .i64 x, .int .i64 y, .int .i64 z]) (.agg #[.int .i64 x, .int .i64 y, .int .i64 z])).run Try.prog w = .ok true w := by
  rw [run_equalIn_struct w 9999 62 _ _ (by kernel_rfl) (by kernel_rfl)]
  simp only [Program.fieldsOf, Try.underlying62, Op.eqFields]
  simp [go_sem]

theorem rw_block1 {w : World} {b : Nat} {v : Int} {t : TypeId} (h : w.heap[b]? = some (.cells #[.int .i64 v] t (0, 0))) : Rw 1 w (some ⟨b, 0, none⟩) 1 (fun _ => v) :=
  .inr ⟨b, 0, rfl, lt_heap h, fun j hj => by obtain rfl : j = 0 := by omega
                                             exact cell_of_row _ _ 0 _ _ _ h⟩

theorem rw_block3 {w : World} {b : Nat} {v : Int} {t : TypeId} (h : w.heap[b]? = some (.cells #[.int .i64 v, .int .i64 v, .int .i64 v] t (0, 0))) : Rw 3 w (some ⟨b, 0, none⟩) 1 (fun _ => v) :=
  .inr ⟨b, 0, rfl, lt_heap h, fun j hj => by
    match j, hj with
    | 0, _ => exact cell_of_row _ _ 0 _ _ _ h
    | 1, _ => exact cell_of_row _ _ 1 _ _ _ h
    | 2, _ => exact cell_of_row _ _ 2 _ _ _ h⟩

/-- the document's example: a film of one pixel -/
def one (x : Int) : Flm := ⟨1, 1, 1, 1, 1, 1, 1, 1, fun _ => x, fun _ => 0, fun _ => 0, fun _ => 0, fun _ => -1, fun _ => -1⟩

theorem one_ok (x : Int) : okF (one x) := by
  refine ⟨⟨⟨by simp [one], by simp [one], by simp [one], by simp [one]⟩, by simp [one]⟩, by simp [one], by simp [one], by simp [one], ⟨by simp [one], fun j _ => ⟨by show (-1 : Int) ≤ -1; omega, by show (-1 : Int) ≤ 127; omega⟩⟩, ⟨by simp [one], fun j _ => ⟨by show (-1 : Int) ≤ -1; omega, by show (-1 : Int) ≤ 1 * 1 - 1; omega⟩⟩⟩

theorem one_past (x : Int) (g : Flm) (i : Nat) : ¬ hasPast (one x) g i := fun h => by have := h.1; simp [one] at this

theorem blend_any (f g : Flm) (p q : Pl) (W3 H3 : Int) (am : Option Addr) (nm cm : Nat) (M : Nat → Int) (w : World) (hf : FAt w f p) (hg : FAt w g q) (hm : Rw 3 w am nm M) (ho : okF f) (ho2 : okF g) (ho3 : okSh W3 H3 nm) (hs : W3 = g.W ∧ H3 = g.H) :
    Calls Try.prog 8 #[.agg (FC f p), .agg (FC g q), .agg #[.int .i64 W3, .int .i64 H3, .slice am nm cm]] w fun e' w' => (∃ g' cap, e' = .returned (.tuple #[.agg #[.int .i64 f.W, .int .i64 f.H, .slice (some ⟨g', 0, none⟩) f.nl cap], .int .i64 0]) ∧ w'.ownsRow w.heap.size 62 3 (.slice (some ⟨g', 0, none⟩) f.nl cap) f.nl (flatc 3 (blend f g M) f.nl)) ∧ Below w.heap.size w w' := by
  obtain ⟨W, H, nl, nd, nn, nb, ns, nf, L, D, N, B, S, F⟩ := f
  obtain ⟨W2, H2, nl2, nd2, nn2, nb2, ns2, nf2, L2, D2, N2, B2, S2, F2⟩ := g
  obtain ⟨al, cl, ad, cd, an, cn, ab, cb, ax, cx, af, cf⟩ := p
  obtain ⟨al2, cl2, ad2, cd2, an2, cn2, ab2, cb2, ax2, cx2, af2, cf2⟩ := q
  exact blend_yes W H al ad an ab ax af cl cd cn cb cx cf nl nd nn nb ns nf L D N B S F W2 H2 al2 ad2 an2 ab2 ax2 af2 cl2 cd2 cn2 cb2 cx2 cf2 nl2 nd2 nn2 nb2 ns2 nf2 L2 D2 N2 B2 S2 F2 W3 H3 am nm cm M w hf hg hm ho ho2 ho3 hs

set_option maxHeartbeats 8000000 in
set_option maxRecDepth 100000 in
theorem wawake_any  (w : World)  : Calls Try.prog 6 #[] w fun e' w' => e' = .returned (.bool true) ∧ Below w.heap.size w w' := by
  go_enter Try.func6, Try.ntmps6
  go_wp2_with fail
  refine (He.gray_any 9 _).mono ?_
  rintro e z ⟨rfl, hbz⟩
  go_upto_region 2 with fail
  have hR := rows7 z (.cells #[.int .i64 9, .int .i64 9, .int .i64 9] 62) (.cells #[.int .i64 0] 60) (.cells #[.int .i64 0, .int .i64 0, .int .i64 0] 65) (.cells #[.int .i64 0, .int .i64 0, .int .i64 0] 62) (.cells #[.int .i64 (-1)] 3) (.cells #[.int .i64 (-1)] 3) (.cells #[.int .i64 1, .int .i64 1, .slice (some ⟨z.heap.size, 0, none⟩) 1 1, .slice (some ⟨z.heap.size + 1, 0, none⟩) 1 1, .slice (some ⟨z.heap.size + 1 + 1, 0, none⟩) 1 1, .slice (some ⟨z.heap.size + 1 + 1 + 1, 0, none⟩) 1 1, .slice (some ⟨z.heap.size + 1 + 1 + 1 + 1, 0, none⟩) 1 1, .slice (some ⟨z.heap.size + 1 + 1 + 1 + 1 + 1, 0, none⟩) 1 1] 40)
  have HUx := hbz.trans ((below_m7 z (.cells #[.int .i64 9, .int .i64 9, .int .i64 9] 62) (.cells #[.int .i64 0] 60) (.cells #[.int .i64 0, .int .i64 0, .int .i64 0] 65) (.cells #[.int .i64 0, .int .i64 0, .int .i64 0] 62) (.cells #[.int .i64 (-1)] 3) (.cells #[.int .i64 (-1)] 3) (.cells #[.int .i64 1, .int .i64 1, .slice (some ⟨z.heap.size, 0, none⟩) 1 1, .slice (some ⟨z.heap.size + 1, 0, none⟩) 1 1, .slice (some ⟨z.heap.size + 1 + 1, 0, none⟩) 1 1, .slice (some ⟨z.heap.size + 1 + 1 + 1, 0, none⟩) 1 1, .slice (some ⟨z.heap.size + 1 + 1 + 1 + 1, 0, none⟩) 1 1, .slice (some ⟨z.heap.size + 1 + 1 + 1 + 1 + 1, 0, none⟩) 1 1] 40)).mono hbz.size)
  obtain ⟨y0, hy0⟩ : ∃ y0, ((((((z.alloc (.cells #[.int .i64 9, .int .i64 9, .int .i64 9] 62)).alloc (.cells #[.int .i64 0] 60)).alloc (.cells #[.int .i64 0, .int .i64 0, .int .i64 0] 65)).alloc (.cells #[.int .i64 0, .int .i64 0, .int .i64 0] 62)).alloc (.cells #[.int .i64 (-1)] 3)).alloc (.cells #[.int .i64 (-1)] 3)).alloc (.cells #[.int .i64 1, .int .i64 1, .slice (some ⟨z.heap.size, 0, none⟩) 1 1, .slice (some ⟨z.heap.size + 1, 0, none⟩) 1 1, .slice (some ⟨z.heap.size + 1 + 1, 0, none⟩) 1 1, .slice (some ⟨z.heap.size + 1 + 1 + 1, 0, none⟩) 1 1, .slice (some ⟨z.heap.size + 1 + 1 + 1 + 1, 0, none⟩) 1 1, .slice (some ⟨z.heap.size + 1 + 1 + 1 + 1 + 1, 0, none⟩) 1 1] 40) = y0 := ⟨_, rfl⟩
  rw [hy0] at hR HUx ⊢
  clear hy0
  obtain ⟨b0, hb0⟩ : ∃ b, b = z.heap.size := ⟨_, rfl⟩
  rw [← hb0] at hR ⊢
  clear hb0 hbz
  have HU0 := Lib.hid HUx
  clear HUx
  obtain ⟨h0, h1, h2, h3, h4, h5, hr0_0⟩ := hR
  have HAT := Lib.hid (show FAt y0 (one 9) (⟨some ⟨b0, 0, none⟩, 1, some ⟨b0 + 1, 0, none⟩, 1, some ⟨b0 + 1 + 1, 0, none⟩, 1, some ⟨b0 + 1 + 1 + 1, 0, none⟩, 1, some ⟨b0 + 1 + 1 + 1 + 1, 0, none⟩, 1, some ⟨b0 + 1 + 1 + 1 + 1 + 1, 0, none⟩, 1⟩ : Pl) from ⟨rw_block3 h0, rw_block1 h1, rw_block3 h2, rw_block3 h3, rw_block1 h4, rw_block1 h5⟩)
  clear h0 h1 h2 h3 h4 h5
  have c0_0 := cell_of_row _ _ 0 _ _ _ hr0_0
  have c0_1 := cell_of_row _ _ 1 _ _ _ hr0_0
  have c0_2 := cell_of_row _ _ 2 _ _ _ hr0_0
  have c0_3 := cell_of_row _ _ 3 _ _ _ hr0_0
  have c0_4 := cell_of_row _ _ 4 _ _ _ hr0_0
  have c0_5 := cell_of_row _ _ 5 _ _ _ hr0_0
  have c0_6 := cell_of_row _ _ 6 _ _ _ hr0_0
  have c0_7 := cell_of_row _ _ 7 _ _ _ hr0_0
  simp at c0_0 c0_1 c0_2 c0_3 c0_4 c0_5 c0_6 c0_7
  go_wp2_with fail
  refine ((show Calls _ _ _ _ (fun e w' => (∃ g' cap, e = .returned (.tuple #[.agg #[.int .i64 1, .int .i64 1, .slice (some ⟨g', 0, none⟩) 1 cap], .int .i64 0]) ∧ w'.ownsRow y0.heap.size 62 3 (.slice (some ⟨g', 0, none⟩) 1 cap) 1 (flatc 3 (blend (one 9) (one 9) (fun _ => 9)) 1)) ∧ Below y0.heap.size y0 w') from blend_any (one 9) (one 9) (⟨some ⟨b0, 0, none⟩, 1, some ⟨b0 + 1, 0, none⟩, 1, some ⟨b0 + 1 + 1, 0, none⟩, 1, some ⟨b0 + 1 + 1 + 1, 0, none⟩, 1, some ⟨b0 + 1 + 1 + 1 + 1, 0, none⟩, 1, some ⟨b0 + 1 + 1 + 1 + 1 + 1, 0, none⟩, 1⟩ : Pl) (⟨some ⟨b0, 0, none⟩, 1, some ⟨b0 + 1, 0, none⟩, 1, some ⟨b0 + 1 + 1, 0, none⟩, 1, some ⟨b0 + 1 + 1 + 1, 0, none⟩, 1, some ⟨b0 + 1 + 1 + 1 + 1, 0, none⟩, 1, some ⟨b0 + 1 + 1 + 1 + 1 + 1, 0, none⟩, 1⟩ : Pl) 1 1 (some ⟨b0, 0, none⟩) 1 1 (fun _ => 9) _ HAT.out HAT.out HAT.out.l (one_ok 9) (one_ok 9) ⟨⟨by decide, by decide, by decide, by decide⟩, by decide⟩ ⟨rfl, rfl⟩)).mono ?_
  rintro e y1 ⟨⟨g2, cap2, rfl, how⟩, hb1⟩
  clear c0_0 c0_1 c0_2 c0_3 c0_4 c0_5 c0_6 c0_7
  have hr1_0 := (hb1.block _ (lt_heap hr0_0)).trans hr0_0
  have HU1 := Lib.hid (HU0.out.trans (hb1.mono HU0.out.size))
  clear hr0_0 HU0
  have HX1 := Lib.hid how
  clear how HAT
  go_upto_region 3 with fail
  have hb2 := Ve.below_n1 y1 (.cells #[.int .i64 1, .int .i64 1, .slice (some ⟨g2, 0, none⟩) 1 cap2] 36)
  have hN := heap_alloc_last y1 (.cells #[.int .i64 1, .int .i64 1, .slice (some ⟨g2, 0, none⟩) 1 cap2] 36)
  obtain ⟨y2, hy2⟩ : ∃ y, y1.alloc (.cells #[.int .i64 1, .int .i64 1, .slice (some ⟨g2, 0, none⟩) 1 cap2] 36) = y := ⟨_, rfl⟩
  have hs2 : y2.heap.size = y1.heap.size + 1 := by rw [← hy2]; simp
  rw [hy2] at hb2 hN ⊢
  clear hy2
  have hl2_0 := lt_heap hr1_0
  have hr2_0 := (hb2.block _ (lt_heap hr1_0)).trans hr1_0
  have HU2 := Lib.hid (HU1.out.trans (hb2.mono HU1.out.size))
  clear hr1_0 HU1
  have hr2_1 := hN
  clear hN
  have HX2 := Lib.hid (Ls.own_below HX1.out hb2)
  clear HX1
  have el0 : y2.cell? ⟨g2, 0, none⟩ = some (.int .i64 9) := by rw [HX2.out.cellAt 0 (by decide), flatc_at _ _ _ _ (by decide)]; exact congrArg (fun x => some (Value.int .i64 x)) (if_neg (one_past 9 _ _))
  have el1 : y2.cell? ⟨g2, 1, none⟩ = some (.int .i64 9) := by rw [HX2.out.cellAt 1 (by decide), flatc_at _ _ _ _ (by decide)]; exact congrArg (fun x => some (Value.int .i64 x)) (if_neg (one_past 9 _ _))
  have el2 : y2.cell? ⟨g2, 2, none⟩ = some (.int .i64 9) := by rw [HX2.out.cellAt 2 (by decide), flatc_at _ _ _ _ (by decide)]; exact congrArg (fun x => some (Value.int .i64 x)) (if_neg (one_past 9 _ _))
  have hee := fun W => eq_hue 9 9 9 W
  clear HX2
  refine wp_region_held_drew (S := fun y => y.heap[y1.heap.size]? = some (.cells #[.int .i64 1, .int .i64 1, .slice (some ⟨g2, 0, none⟩) 1 cap2] 36 (0, 0)) ∧ y.cell? ⟨g2, 0, none⟩ = some (.int .i64 9) ∧ y.cell? ⟨g2, 1, none⟩ = some (.int .i64 9) ∧ y.cell? ⟨g2, 2, none⟩ = some (.int .i64 9)) (by kernel_rfl) (⟨hr2_1, el0, el1, el2⟩) (fun hS0 => ?_)
  obtain ⟨y3, hy3⟩ : ∃ y, y2.drew = y := ⟨_, rfl⟩
  have HU3 := Lib.hid (show Below w.heap.size w y3 by rw [← hy3]; exact HU2.out.drew)
  have hr3_0 : y3.heap[b0 + 1 + 1 + 1 + 1 + 1 + 1]? = some (.cells #[.int .i64 1, .int .i64 1, .slice (some ⟨b0, 0, none⟩) 1 1, .slice (some ⟨b0 + 1, 0, none⟩) 1 1, .slice (some ⟨b0 + 1 + 1, 0, none⟩) 1 1, .slice (some ⟨b0 + 1 + 1 + 1, 0, none⟩) 1 1, .slice (some ⟨b0 + 1 + 1 + 1 + 1, 0, none⟩) 1 1, .slice (some ⟨b0 + 1 + 1 + 1 + 1 + 1, 0, none⟩) 1 1] 40 (0, 0)) := by rw [← hy3]; exact hr2_0
  have hr3_1 : y3.heap[y1.heap.size]? = some (.cells #[.int .i64 1, .int .i64 1, .slice (some ⟨g2, 0, none⟩) 1 cap2] 36 (0, 0)) := by rw [← hy3]; exact hr2_1
  rw [hy3] at hS0 ⊢
  clear hy3
  refine wpAnyH_take (i := 0) (v := ?_) rfl (by kernel_rfl) (by kernel_rfl) (by kernel_rfl) (fun _ _ _ h => h) (Or.inl ⟨by kernel_rfl, by (intro wz hSz; go_simp; try with_reducible rfl)⟩) hS0 ?_
  go_simp
  refine wpAnyH_take (i := 1) (v := ?_) rfl (by kernel_rfl) (by kernel_rfl) (by kernel_rfl) (fun _ _ _ h => h) (Or.inl ⟨by kernel_rfl, by (intro wz hSz; go_simp; try with_reducible rfl)⟩) hS0 ?_
  go_simp
  refine wpAnyH_take (i := 2) (v := ?_) rfl (by kernel_rfl) (by kernel_rfl) (by kernel_rfl) (fun _ _ _ h => h) (Or.inl ⟨by kernel_rfl, by (intro wz hSz; go_simp; try with_reducible rfl)⟩) hS0 ?_
  go_simp
  refine wpAnyH_take (i := 3) (v := ?_) rfl (by kernel_rfl) (by kernel_rfl) (by kernel_rfl) (fun _ _ _ h => h) (Or.inl ⟨by kernel_rfl, by (intro wz hSz; go_simp; try with_reducible rfl)⟩) hS0 ?_
  go_simp
  refine wpAnyH_take (i := 4) (v := ?_) rfl (by kernel_rfl) (by kernel_rfl) (by kernel_rfl) (fun _ _ _ h => h) (Or.inl ⟨by kernel_rfl, by (intro wz hSz; have c1_0 := cell_of_row _ _ 0 _ _ _ hSz.1; have c1_1 := cell_of_row _ _ 1 _ _ _ hSz.1; have c1_2 := cell_of_row _ _ 2 _ _ _ hSz.1; simp at c1_0 c1_1 c1_2; have el0z := hSz.2.1; have el1z := hSz.2.2.1; have el2z := hSz.2.2.2; go_simp; try with_reducible rfl)⟩) hS0 ?_
  go_simp
  refine wpAnyH_take (i := 5) (v := ?_) rfl (by kernel_rfl) (by kernel_rfl) (by kernel_rfl) (fun _ _ _ h => h) (Or.inl ⟨by kernel_rfl, by (intro wz hSz; go_simp; try with_reducible rfl)⟩) hS0 ?_
  go_simp
  refine wpAnyH_take (i := 6) (v := ?_) rfl (by kernel_rfl) (by kernel_rfl) (by kernel_rfl) (fun _ _ _ h => h) (Or.inl ⟨by kernel_rfl, by (intro wz hSz; go_simp; try with_reducible rfl)⟩) hS0 ?_
  go_simp
  refine wpAnyH_take (i := 7) (v := ?_) rfl (by kernel_rfl) (by kernel_rfl) (by kernel_rfl) (fun _ _ _ h => h) (Or.inl ⟨by kernel_rfl, by (intro wz hSz; go_simp; try with_reducible rfl)⟩) hS0 ?_
  go_simp
  refine wpAnyH_take (i := 8) (v := ?_) rfl (by kernel_rfl) (by kernel_rfl) (by kernel_rfl) (fun _ _ _ h => h) (Or.inl ⟨by kernel_rfl, by (intro wz hSz; go_simp; try with_reducible rfl)⟩) hS0 ?_
  go_simp
  refine wpAnyH_take (i := 9) (v := ?_) rfl (by kernel_rfl) (by kernel_rfl) (by kernel_rfl) (fun _ _ _ h => h) (Or.inl ⟨by kernel_rfl, by (intro wz hSz; go_simp; try with_reducible rfl)⟩) hS0 ?_
  go_simp
  refine wpAnyH_take (i := 10) (v := ?_) rfl (by kernel_rfl) (by kernel_rfl) (by kernel_rfl) (fun _ _ _ h => h) (Or.inl ⟨by kernel_rfl, by (intro wz hSz; have c1_0 := cell_of_row _ _ 0 _ _ _ hSz.1; have c1_1 := cell_of_row _ _ 1 _ _ _ hSz.1; have c1_2 := cell_of_row _ _ 2 _ _ _ hSz.1; simp at c1_0 c1_1 c1_2; have el0z := hSz.2.1; have el1z := hSz.2.2.1; have el2z := hSz.2.2.2; go_simp; try with_reducible rfl)⟩) hS0 ?_
  go_simp
  refine wpAnyH_take (i := 11) (v := ?_) rfl (by kernel_rfl) (by kernel_rfl) (by kernel_rfl) (fun _ _ _ h => h) (Or.inl ⟨by kernel_rfl, by (intro wz hSz; go_simp; try with_reducible rfl)⟩) hS0 ?_
  go_simp
  refine wpAnyH_take (i := 12) (v := ?_) rfl (by kernel_rfl) (by kernel_rfl) (by kernel_rfl) (fun _ _ _ h => h) (Or.inl ⟨by kernel_rfl, by (intro wz hSz; have c1_0 := cell_of_row _ _ 0 _ _ _ hSz.1; have c1_1 := cell_of_row _ _ 1 _ _ _ hSz.1; have c1_2 := cell_of_row _ _ 2 _ _ _ hSz.1; simp at c1_0 c1_1 c1_2; have el0z := hSz.2.1; have el1z := hSz.2.2.1; have el2z := hSz.2.2.2; go_simp; try with_reducible rfl)⟩) hS0 ?_
  go_simp
  refine wpAnyH_ready (rs := [13]) (by kernel_rfl) (by simp) ?_
  refine AllReadyH.cons rfl (fun K hK => ?_) AllReadyH.nil
  go_simp
  go_wp2_with (go_at_call 20; refine (He.gray_any 9 _).mono ?_; rintro e y4 ⟨rfl, hb4⟩)
  have hr4_0 := (hb4.block _ (lt_heap hr3_0)).trans hr3_0
  have hr4_1 := (hb4.block _ (lt_heap hr3_1)).trans hr3_1
  have HU4 := Lib.hid (HU3.out.trans (hb4.mono HU3.out.size))
  refine hK.out _ _ (⟨(hb4.block _ (lt_heap hS0.1)).trans hS0.1, (hb4.cell (p := ⟨g2, 0, none⟩) (World.block_lt_of_cell? _ _ (hS0.2.1))).trans hS0.2.1, (hb4.cell (p := ⟨g2, 1, none⟩) (World.block_lt_of_cell? _ _ (hS0.2.2.1))).trans hS0.2.2.1, (hb4.cell (p := ⟨g2, 2, none⟩) (World.block_lt_of_cell? _ _ (hS0.2.2.2))).trans hS0.2.2.2⟩) (fun hS4c => ?_)
  clear hK K
  refine wpAnyH_take (i := 14) (v := ?_) rfl (by kernel_rfl) (by kernel_rfl) (by kernel_rfl) (fun _ _ _ h => h) (Or.inl ⟨by kernel_rfl, by (intro wz hSz; go_simp; try with_reducible rfl)⟩) hS4c ?_
  go_simp
  refine wpAnyH_take (i := 15) (v := ?_) rfl (by kernel_rfl) (by kernel_rfl) (by kernel_rfl) (fun _ _ _ h => h) (Or.inl ⟨by kernel_rfl, by (intro wz hSz; go_simp; try with_reducible rfl)⟩) hS4c ?_
  go_simp
  refine wpAnyH_take (i := 16) (v := ?_) rfl (by kernel_rfl) (by kernel_rfl) (by kernel_rfl) (fun _ _ _ h => h) (Or.inl ⟨by kernel_rfl, by (intro wz hSz; go_simp; try with_reducible rfl)⟩) hS4c ?_
  go_simp
  refine wpAnyH_done (by kernel_rfl) ?_ _
  go_wp2
  go_ret
  exact ⟨rfl, HU4.out⟩

end Go.Proofs.Ytgpbnpnnbipfpaa.Fm
