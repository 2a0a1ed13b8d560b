/- The walk of FixRoots: the law returns true, whatever number comes in; nothing that was there is written. -/
import Derived.Test.YtdnmfiekfkmbbaaDoorWk
namespace Go.Proofs.YtdnmfiekfkmbbaaDoor.fixRootsW
open Go.RowKit Go.Proofs.YtdnmfiekfkmbbaaDoor Go.Proofs.YtdnmfiekfkmbbaaDoor.Wa

theorem root_facts (h : Int) (h0 : 0 < h) (h1 : h ≤ 2147483648) : 0 ≤ Pl.root h ∧ Pl.root h ≤ 16777216 ∧ Pl.root h * Pl.root h ≤ h * 65536 ∧ h * 65536 < (Pl.root h + 1) * (Pl.root h + 1) := by
  obtain ⟨n, hn⟩ : ∃ n : Nat, h * 65536 = n := ⟨(h * 65536).toNat, by omega⟩
  have e : Pl.root h = (Pl.rt n : Nat) := by
    unfold Pl.root
    rw [if_neg (by omega), Pl.held_in (by omega) h1]
    congr 2
    omega
  have ⟨a, b⟩ := Pl.rt_spec n
  have c : Pl.rt n ≤ 16777216 := Pl.rt_le (by omega)
  rw [e, hn]
  refine ⟨by omega, by omega, ?_, ?_⟩
  · have := Int.ofNat_le.2 a; simpa using this
  · have := Int.ofNat_lt.2 b; simpa using this
theorem sq_bd {r : Int} (h0 : 0 ≤ r) (h1 : r ≤ 16777216) : 0 ≤ r * r ∧ r * r ≤ 281474976710656 ∧ 0 ≤ (r + 1) * (r + 1) ∧ (r + 1) * (r + 1) ≤ 281475010265089 := by
  have a := Int.mul_nonneg h0 h0
  have b : 0 ≤ (16777216 - r) * (16777216 + r) := Int.mul_nonneg (by omega) (by omega)
  simp only [Int.sub_mul, Int.mul_add, Int.add_mul] at b ⊢
  omega

theorem walk (a : Int) (_w0 : (Lit.int .i64 a).wf = true) (w : World) :
    Calls Tryd.prog 9 #[.int .i64 a] w fun e w' => e = .returned (.bool true) ∧ Below w.heap.size w w' := by
  have b0 := Pl.held_lo a
  have b1 := Pl.held_hi a
  by_cases h : Pl.held a ≤ 0
  · have hr : Pl.root (Pl.held a) = 0 := by unfold Pl.root; rw [if_pos h]
    go_enter Tryd.func9, Tryd.ntmps9
    go_wp2_with (first | (go_at_call 12; refine (clamp_any _ _).mono ?_; rintro e w1 ⟨rfl, rfl⟩) | (go_at_call 33; refine (root_any _ _).mono ?_; rintro e w1 ⟨rfl, rfl⟩) | (go_at_call 11; refine (awake_any _).mono ?_; rintro e w1 ⟨rfl, hb1⟩))
    go_ret
    exact ⟨rfl, hb1⟩
  · have ⟨r0, r1, r2, r3⟩ := root_facts (Pl.held a) (by omega) b1
    have ⟨s0, s1, s2, s3⟩ := sq_bd r0 r1
    go_enter Tryd.func9, Tryd.ntmps9
    go_wp2_with (first | (go_at_call 12; refine (clamp_any _ _).mono ?_; rintro e w1 ⟨rfl, rfl⟩) | (go_at_call 33; refine (root_any _ _).mono ?_; rintro e w1 ⟨rfl, rfl⟩) | (go_at_call 11; refine (awake_any _).mono ?_; rintro e w1 ⟨rfl, hb1⟩))
    go_ret
    exact ⟨rfl, hb1⟩
end Go.Proofs.YtdnmfiekfkmbbaaDoor.fixRootsW
