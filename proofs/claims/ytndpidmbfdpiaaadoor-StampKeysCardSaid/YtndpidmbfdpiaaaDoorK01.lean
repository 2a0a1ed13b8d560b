/- Layer 22: words of 32 bits: turned, pushed, by the program and by the document. -/
import Derived.Test.YtndpidmbfdpiaaaDoorChecked
import Derived.WalkKit
import Derived.Lib.Hide
import Derived.Deep.QuietTactic
import Derived.BigQuiet
import Derived.Deep.RegionHeld
import Derived.Laws.BitsAllLaws
import Derived.Shelf.Strconv.Itoa0
namespace Go.Proofs.YtndpidmbfdpiaaaDoor.Se
open Go Go.RowKit Go.Proofs.YtndpidmbfdpiaaaDoor
set_option linter.unusedVariables false

abbrev wr (n : Int) : Int := n % 4294967296

theorem wr_nonneg (n : Int) : 0 ≤ wr n := by unfold wr; omega

/-- turned to the right -/
def rotr (x : Int) (k : Nat) : Int := bits .or .u32 (wr (x * 2 ^ (32 - k))) (x / 2 ^ k)

def x3 (a b c : Int) : Int := bits .xor .u32 (bits .xor .u32 a b) c

theorem and31 : ∀ a : Fin 32, 0 < a.val → bits .and .u64 (IntKind.u64.wrap (-(a.val : Int))) 31 = ((32 - a.val : Nat) : Int) := by decide +kernel

theorem rot_any (n : Int) (a : Nat) (h0 : 0 < a) (h1 : a < 32) (w : World) : Calls Tryd.prog 53 #[.int .u32 n, .int .i64 (-(a : Int))] w fun e w' => e = .returned (.int .u32 (rotr n a)) ∧ w = w' := by
  have ha := and31 ⟨a, h1⟩ h0
  have hr := Lib.hid (show bits .or .u32 (n * 2 ^ (32 - a) % 4294967296) (n / 2 ^ (32 - (32 - a))) = rotr n a by unfold rotr; rw [show 32 - (32 - a) = a by omega])
  go_enter Tryd.func53, Tryd.ntmps53
  go_wp2
  go_ret
  exact ⟨congrArg (fun z => Ending.returned (.int .u32 z)) hr.out, rfl⟩

theorem neg_wrap (a : Nat) (h : a < 32) : IntKind.i64.wrap (-(a : Int)) = -(a : Int) := by simp [IntKind.wrap, IntKind.bits, IntKind.signed]; omega

set_option maxHeartbeats 1000000 in
theorem turned_any (n : Int) (a b c : Nat) (a0 : 0 < a) (a1 : a < 32) (b0 : 0 < b) (b1 : b < 32) (c0 : 0 < c) (c1 : c < 32) (w : World) : Calls Tryd.prog 50 #[.int .u32 n, .int .i64 a, .int .i64 b, .int .i64 c] w fun e w' => e = .returned (.int .u32 (x3 (rotr n a) (rotr n b) (rotr n c))) ∧ w = w' := by
  go_enter Tryd.func50, Tryd.ntmps50
  go_wp2_with (go_at_call 53; refine (rot_any _ _ (by assumption) (by assumption) _).mono ?_; rintro e w1 ⟨rfl, rfl⟩)
  go_ret
  exact ⟨rfl, rfl⟩

set_option maxHeartbeats 1000000 in
set_option maxRecDepth 100000 in
theorem pushed_any (n : Int) (a b c : Nat) (a0 : 0 < a) (a1 : a < 32) (b0 : 0 < b) (b1 : b < 32) (c0 : 0 < c) (c1 : c < 32) (w : World) : Calls Tryd.prog 52 #[.int .u32 n, .int .i64 a, .int .i64 b, .int .i64 c] w fun e w' => e = .returned (.int .u32 (x3 (rotr n a) (rotr n b) (n / 2 ^ c))) ∧ Below w.heap.size w w' := by
  have ea := neg_wrap a a1
  have eb := neg_wrap b b1
  go_enter Tryd.func52, Tryd.ntmps52
  go_wp2_with fail
  refine wp_region_held_drew (S := fun _ => True) (by kernel_rfl) (trivial) (fun hS0 => ?_)
  refine wpAnyH_take (i := 0) (v := ?_) rfl (by kernel_rfl) (by kernel_rfl) (by kernel_rfl) (fun _ _ _ h => h) (Or.inl ⟨by kernel_rfl, by (intro wz hSz; go_simp; try with_reducible rfl)⟩) hS0 ?_
  go_simp
  refine wpAnyH_take (i := 1) (v := ?_) rfl (by kernel_rfl) (by kernel_rfl) (by kernel_rfl) (fun _ _ _ h => h) (Or.inl ⟨by kernel_rfl, by (intro wz hSz; go_simp; try with_reducible rfl)⟩) hS0 ?_
  go_simp
  refine wpAnyH_take (i := 2) (v := ?_) rfl (by kernel_rfl) (by kernel_rfl) (by kernel_rfl) (fun _ _ _ h => h) (Or.inl ⟨by kernel_rfl, by (intro wz hSz; go_simp; try with_reducible rfl)⟩) hS0 ?_
  go_simp
  refine wpAnyH_take (i := 4) (v := ?_) rfl (by kernel_rfl) (by kernel_rfl) (by kernel_rfl) (fun _ _ _ h => h) (Or.inl ⟨by kernel_rfl, by (intro wz hSz; go_simp; try with_reducible rfl)⟩) hS0 ?_
  go_simp
  refine wpAnyH_take (i := 5) (v := ?_) rfl (by kernel_rfl) (by kernel_rfl) (by kernel_rfl) (fun _ _ _ h => h) (Or.inl ⟨by kernel_rfl, by (intro wz hSz; go_simp; try with_reducible rfl)⟩) hS0 ?_
  go_simp
  refine wpAnyH_take (i := 6) (v := ?_) rfl (by kernel_rfl) (by kernel_rfl) (by kernel_rfl) (fun _ _ _ h => h) (Or.inl ⟨by kernel_rfl, by (intro wz hSz; go_simp; try with_reducible rfl)⟩) hS0 ?_
  go_simp
  refine wpAnyH_take (i := 9) (v := ?_) rfl (by kernel_rfl) (by kernel_rfl) (by kernel_rfl) (fun _ _ _ h => h) (Or.inl ⟨by kernel_rfl, by (intro wz hSz; go_simp; try with_reducible rfl)⟩) hS0 ?_
  go_simp
  refine wpAnyH_take (i := 10) (v := ?_) rfl (by kernel_rfl) (by kernel_rfl) (by kernel_rfl) (fun _ _ _ h => h) (Or.inl ⟨by kernel_rfl, by (intro wz hSz; go_simp; try with_reducible rfl)⟩) hS0 ?_
  go_simp
  refine wpAnyH_take (i := 11) (v := ?_) rfl (by kernel_rfl) (by kernel_rfl) (by kernel_rfl) (fun _ _ _ h => h) (Or.inl ⟨by kernel_rfl, by (intro wz hSz; go_simp; try with_reducible rfl)⟩) hS0 ?_
  go_simp
  refine wpAnyH_ready (rs := [3]) (by kernel_rfl) (by simp) ?_
  refine AllReadyH.cons rfl (fun K hK => ?_) AllReadyH.nil
  go_simp
  go_wp2_with (go_at_call 53; refine (rot_any _ _ (by assumption) (by assumption) _).mono ?_; rintro e ww ⟨rfl, rfl⟩)
  refine hK.out _ _ (hS0) (fun hSq3 => ?_)
  clear hK K
  refine wpAnyH_ready (rs := [7]) (by kernel_rfl) (by simp) ?_
  refine AllReadyH.cons rfl (fun K hK => ?_) AllReadyH.nil
  go_simp
  go_wp2_with (go_at_call 53; refine (rot_any _ _ (by assumption) (by assumption) _).mono ?_; rintro e ww ⟨rfl, rfl⟩)
  refine hK.out _ _ (hSq3) (fun hSq7 => ?_)
  clear hK K
  refine wpAnyH_take (i := 8) (v := ?_) rfl (by kernel_rfl) (by kernel_rfl) (by kernel_rfl) (fun _ _ _ h => h) (Or.inl ⟨by kernel_rfl, by (intro wz hSz; go_simp; try with_reducible rfl)⟩) hSq7 ?_
  go_simp
  refine wpAnyH_take (i := 12) (v := ?_) rfl (by kernel_rfl) (by kernel_rfl) (by kernel_rfl) (fun _ _ _ h => h) (Or.inl ⟨by kernel_rfl, by (intro wz hSz; go_simp; try with_reducible rfl)⟩) hSq7 ?_
  go_simp
  refine wpAnyH_take (i := 13) (v := ?_) rfl (by kernel_rfl) (by kernel_rfl) (by kernel_rfl) (fun _ _ _ h => h) (Or.inl ⟨by kernel_rfl, by (intro wz hSz; go_simp; try with_reducible rfl)⟩) hSq7 ?_
  go_simp
  refine wpAnyH_done (by kernel_rfl) ?_ _
  skip
  go_wp2
  go_ret
  exact ⟨rfl, (Below.refl _ w).drew⟩

theorem pushed_a (n : Int) (w : World) : Calls Tryd.prog 52 #[.int .u32 n, .int .i64 17, .int .i64 19, .int .i64 10] w fun e w' => e = .returned (.int .u32 (x3 (rotr n 17) (rotr n 19) (n / 1024))) ∧ Below w.heap.size w w' :=
  pushed_any n 17 19 10 (by decide) (by decide) (by decide) (by decide) (by decide) (by decide) w

theorem pushed_b (n : Int) (w : World) : Calls Tryd.prog 52 #[.int .u32 n, .int .i64 7, .int .i64 18, .int .i64 3] w fun e w' => e = .returned (.int .u32 (x3 (rotr n 7) (rotr n 18) (n / 8))) ∧ Below w.heap.size w w' :=
  pushed_any n 7 18 3 (by decide) (by decide) (by decide) (by decide) (by decide) (by decide) w

theorem turned_a (n : Int) (w : World) : Calls Tryd.prog 50 #[.int .u32 n, .int .i64 6, .int .i64 11, .int .i64 25] w fun e w' => e = .returned (.int .u32 (x3 (rotr n 6) (rotr n 11) (rotr n 25))) ∧ w = w' :=
  turned_any n 6 11 25 (by decide) (by decide) (by decide) (by decide) (by decide) (by decide) w

theorem turned_b (n : Int) (w : World) : Calls Tryd.prog 50 #[.int .u32 n, .int .i64 2, .int .i64 13, .int .i64 22] w fun e w' => e = .returned (.int .u32 (x3 (rotr n 2) (rotr n 13) (rotr n 22))) ∧ w = w' :=
  turned_any n 2 13 22 (by decide) (by decide) (by decide) (by decide) (by decide) (by decide) w

theorem or_comm32 (a b : Int) : bits .or .u32 a b = bits .or .u32 b a := by simp [bits, BitVec.or_comm]

theorem rturn_any (n : Int) (a : Nat) (a0 : 0 < a) (a1 : a < 32) (w : World) : Calls Tryd.prog 38 #[.int .u32 n, .int .u64 a] w fun e w' => e = .returned (.int .u32 (rotr n a)) ∧ w = w' := by
  go_enter Tryd.func38, Tryd.ntmps38
  go_wp2
  go_ret
  exact ⟨congrArg (fun z => Ending.returned (.int .u32 z)) (or_comm32 _ _), rfl⟩

end Go.Proofs.YtndpidmbfdpiaaaDoor.Se
