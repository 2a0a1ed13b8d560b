/- The header's and the base's small questions. -/
import Derived.Test.YtfeihojobmagnaaSl
import Derived.Test.YtfeihojobmagnaaSj
import Derived.StillTailTactics
namespace Go.Proofs.Ytfeihojobmagnaa.Sc
open Go.RowKit Go.Proofs.Ytfeihojobmagnaa Go.Proofs.Ytfeihojobmagnaa.Wa Go.Proofs.Ytfeihojobmagnaa.Ve Go.Proofs.Ytfeihojobmagnaa.Tk Go.Proofs.Ytfeihojobmagnaa.Ls
set_option linter.unusedVariables false

theorem wrap_i64_of {n : Int} (h1 : -9223372036854775808 ≤ n) (h2 : n ≤ 9223372036854775807) : IntKind.i64.wrap n = n := by
  have e : IntKind.i64.wrap n = if 9223372036854775808 ≤ n % 18446744073709551616 then n % 18446744073709551616 - 18446744073709551616 else n % 18446744073709551616 := by simp [IntKind.wrap, IntKind.bits, IntKind.signed]
  rw [e]; split <;> omega

theorem hangs_any (j p : Int) (w : World) : Calls Try.prog 15 #[.agg #[.int .i64 j, .int .i64 p]] w fun e w' => e = .returned (.bool (decide (0 ≤ j))) ∧ Below w.heap.size w w' := by
  go_enter Try.func15, Try.ntmps15
  go_wp2
  go_ret
  exact ⟨rfl, below_n1 _ _⟩

theorem pix_any (wd h sm dp fr sh : Int) (sd : Nat) (r g b : Int) (h1 : inB wd 1 64 = true) (h2 : inB h 1 64 = true) (w : World) : Calls Try.prog 17 #[HV wd h sm dp fr sh sd r g b] w fun e w' => e = .returned (.int .i64 (wd * h)) ∧ Below w.heap.size w w' := by
  have b1 : 1 ≤ wd ∧ wd ≤ 64 := by simpa [inB] using h1
  have b2 : 1 ≤ h ∧ h ≤ 64 := by simpa [inB] using h2
  have m1 : 0 ≤ wd * h := Int.mul_nonneg (by omega) (by omega)
  have m2 : wd * h ≤ 64 * 64 := Int.mul_le_mul b1.2 b2.2 (by omega) (by omega)
  have hwr : IntKind.i64.wrap (wd * h) = wd * h := by
    obtain ⟨q, hq⟩ : ∃ q, q = wd * h := ⟨_, rfl⟩
    rw [← hq] at m1 m2 ⊢
    exact wrap_i64_of (by omega) (by omega)
  clear b1 b2
  go_enter Try.func17, Try.ntmps17
  go_wp2_with (go_at_call 63; with_reducible (first | refine (lies_is _ _ _ _ h1 _).mono ?_ | refine (lies_is _ _ _ _ h2 _).mono ?_); rintro e w' ⟨rfl, rfl⟩)
  go_ret
  exact ⟨rfl, below_n1 _ _⟩

theorem isone_any (k n : Int) (h1 : 0 ≤ k) (h2 : k < n) (w : World) : Calls Try.prog 60 #[.int .i64 k, .int .i64 n] w fun e w' => e = .returned (.bool true) ∧ w' = w := by
  go_enter Try.func60, Try.ntmps60
  go_wp2
  go_ret
  exact ⟨rfl, rfl⟩

theorem open_any (wd h sm dp fr sh : Int) (sd : Nat) (r g b : Int) (k : Int) (hk : 0 ≤ k) (hk2 : k < 32) (w : World) : Calls Try.prog 18 #[HV wd h sm dp fr sh sd r g b, .int .i64 k] w fun e w' => e = .returned (.int .i64 (k * 65536)) ∧ Below w.heap.size w w' := by
  go_enter Try.func18, Try.ntmps18
  go_wp2_with (go_at_call 60; refine (isone_any _ _ hk hk2 _).mono ?_; rintro e w' ⟨rfl, rfl⟩)
  go_ret
  exact ⟨by go_num, below_n1 _ _⟩

set_option maxHeartbeats 2000000 in
theorem shut_any (wd h sm dp fr sh : Int) (sd : Nat) (r g b : Int) (k : Int) (hk : 0 ≤ k) (hk2 : k < 32) (hs : inB sh 0 65536 = true) (w : World) : Calls Try.prog 19 #[HV wd h sm dp fr sh sd r g b, .int .i64 k] w fun e w' => e = .returned (.int .i64 (k * 65536 + sh)) ∧ Below w.heap.size w w' := by
  have b1 : 0 ≤ sh ∧ sh ≤ 65536 := by simpa [inB] using hs
  have hmx : max sh 0 = sh := by rw [Int.max_def]; split <;> omega
  have hmn : min sh 65536 = sh := by rw [Int.min_def]; split <;> omega
  have hwr : IntKind.i64.wrap (k * 65536 + sh) = k * 65536 + sh := wrap_i64_of (by omega) (by omega)
  have hwr2 : IntKind.i64.wrap (k * 65536) = k * 65536 := wrap_i64_of (by omega) (by omega)
  go_enter Try.func19, Try.ntmps19
  go_wp2_with fail
  refine wp_region_held_drew (S := fun y => y.heap[w.heap.size]? = some (.cells #[.int .i64 wd, .int .i64 h, .int .i64 sm, .int .i64 dp, .int .i64 fr, .int .i64 sh, .int .u64 sd, .int .i64 r, .int .i64 g, .int .i64 b] 39 (0, 0))) (by kernel_rfl) (heap_alloc_last w _) (fun hS0 => ?_)
  obtain ⟨y0, hy0⟩ : ∃ y0, (w.alloc (.cells #[.int .i64 wd, .int .i64 h, .int .i64 sm, .int .i64 dp, .int .i64 fr, .int .i64 sh, .int .u64 sd, .int .i64 r, .int .i64 g, .int .i64 b] 39)).drew = y0 := ⟨_, rfl⟩
  have HU := Lib.hid (show Below w.heap.size w y0 by rw [← hy0]; exact (below_n1 w _).drew)
  rw [hy0] at hS0 ⊢
  clear hy0
  refine wpAnyH_take (i := 0) (v := ?_) rfl (by kernel_rfl) (by kernel_rfl) (by kernel_rfl) (fun _ _ _ h => h) (Or.inl ⟨by kernel_rfl, by (intro wz hSz; have k0 := cell_of_row _ _ 0 _ _ _ hSz; have k1 := cell_of_row _ _ 1 _ _ _ hSz; have k2 := cell_of_row _ _ 2 _ _ _ hSz; have k3 := cell_of_row _ _ 3 _ _ _ hSz; have k4 := cell_of_row _ _ 4 _ _ _ hSz; have k5 := cell_of_row _ _ 5 _ _ _ hSz; have k6 := cell_of_row _ _ 6 _ _ _ hSz; have k7 := cell_of_row _ _ 7 _ _ _ hSz; have k8 := cell_of_row _ _ 8 _ _ _ hSz; have k9 := cell_of_row _ _ 9 _ _ _ hSz; simp at k0 k1 k2 k3 k4 k5 k6 k7 k8 k9; go_simp; try with_reducible rfl)⟩) hS0 ?_
  go_simp
  refine wpAnyH_take (i := 1) (v := ?_) rfl (by kernel_rfl) (by kernel_rfl) (by kernel_rfl) (fun _ _ _ h => h) (Or.inl ⟨by kernel_rfl, by (intro wz hSz; go_simp; try with_reducible rfl)⟩) hS0 ?_
  go_simp
  refine wpAnyH_take (i := 3) (v := ?_) rfl (by kernel_rfl) (by kernel_rfl) (by kernel_rfl) (fun _ _ _ h => h) (Or.inl ⟨by kernel_rfl, by (intro wz hSz; go_simp; try with_reducible rfl)⟩) hS0 ?_
  go_simp
  refine wpAnyH_take (i := 4) (v := ?_) rfl (by kernel_rfl) (by kernel_rfl) (by kernel_rfl) (fun _ _ _ h => h) (Or.inl ⟨by kernel_rfl, by (intro wz hSz; have k0 := cell_of_row _ _ 0 _ _ _ hSz; have k1 := cell_of_row _ _ 1 _ _ _ hSz; have k2 := cell_of_row _ _ 2 _ _ _ hSz; have k3 := cell_of_row _ _ 3 _ _ _ hSz; have k4 := cell_of_row _ _ 4 _ _ _ hSz; have k5 := cell_of_row _ _ 5 _ _ _ hSz; have k6 := cell_of_row _ _ 6 _ _ _ hSz; have k7 := cell_of_row _ _ 7 _ _ _ hSz; have k8 := cell_of_row _ _ 8 _ _ _ hSz; have k9 := cell_of_row _ _ 9 _ _ _ hSz; simp at k0 k1 k2 k3 k4 k5 k6 k7 k8 k9; go_simp; try with_reducible rfl)⟩) hS0 ?_
  go_simp
  refine wpAnyH_take (i := 5) (v := ?_) rfl (by kernel_rfl) (by kernel_rfl) (by kernel_rfl) (fun _ _ _ h => h) (Or.inl ⟨by kernel_rfl, by (intro wz hSz; go_simp; try with_reducible rfl)⟩) hS0 ?_
  go_simp
  refine wpAnyH_take (i := 6) (v := ?_) rfl (by kernel_rfl) (by kernel_rfl) (by kernel_rfl) (fun _ _ _ h => h) (Or.inl ⟨by kernel_rfl, by (intro wz hSz; go_simp; try with_reducible rfl)⟩) hS0 ?_
  go_simp
  refine wpAnyH_ready (rs := [2]) (by kernel_rfl) (by simp) ?_
  refine AllReadyH.cons rfl (fun K hK => ?_) AllReadyH.nil
  go_simp
  go_wp2_with (go_at_call 18; refine (open_any _ _ _ _ _ _ _ _ _ _ k hk hk2 _).mono ?_; rintro e y1 ⟨rfl, hb1⟩)
  refine hK.out _ _ ((hb1.block _ (lt_heap hS0)).trans hS0) (fun hS1 => ?_)
  clear hK K
  refine wpAnyH_take (i := 7) (v := ?_) rfl (by kernel_rfl) (by kernel_rfl) (by kernel_rfl) (fun _ _ _ h => h) (Or.inl ⟨by kernel_rfl, by (intro wz hSz; go_simp; try with_reducible rfl)⟩) hS1 ?_
  go_simp
  refine wpAnyH_take (i := 8) (v := ?_) rfl (by kernel_rfl) (by kernel_rfl) (by kernel_rfl) (fun _ _ _ h => h) (Or.inl ⟨by kernel_rfl, by (intro wz hSz; go_simp; try with_reducible rfl)⟩) hS1 ?_
  go_simp
  refine wpAnyH_done (by kernel_rfl) ?_ _
  go_wp2
  exact bodyPost_ret (v := .int .i64 (k * 65536 + sh)) (by simp [results, Try.results19, go_sem]) rfl ⟨rfl, HU.out.trans (hb1.mono HU.out.size)⟩

end Go.Proofs.Ytfeihojobmagnaa.Sc
