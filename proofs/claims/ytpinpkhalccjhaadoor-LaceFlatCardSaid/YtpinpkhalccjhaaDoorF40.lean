/- The contract of layer 1's sum over a row whose cells are known. -/
import Derived.Test.YtpinpkhalccjhaaDoorF09
import Derived.Test.YtpinpkhalccjhaaDoorF24
namespace Go.Proofs.YtpinpkhalccjhaaDoor.Ls
open Go.RowKit Go.Proofs.YtpinpkhalccjhaaDoor Go.Proofs.YtpinpkhalccjhaaDoor.Wa

theorem sum_none (a : Option Addr) (cap : Nat) (w : World) : Calls Tryd.prog 141 #[.slice a 0 cap] w fun e w' => e = .returned (.int .i64 0) ∧ w = w' := by
  go_enter Tryd.func141, Tryd.ntmps141
  go_wp2
  refine wp_loop_rounds 1 ?_
  rw [rounds_succ]
  go_wp2
  go_ret
  exact ⟨rfl, rfl⟩

theorem sum_row (g : Nat) (n cap : Nat) (xs : List Int) (hn : n = xs.length) (hm : n ≤ 9223372036854775807) (w : World) (hc : ∀ j, j < n → w.cell? ⟨g, j, none⟩ = some (.int .i64 (xs.getD j 0))) :
    Calls Tryd.prog 141 #[.slice (some ⟨g, 0, none⟩) n cap] w fun e w' => e = .returned (.int .i64 (sumL xs)) ∧ w = w' := by
  have HN := Lib.hid hn
  have HC := Lib.hid hc
  clear hn hc
  go_enter Tryd.func141, Tryd.ntmps141
  go_wp2
  go_loop [3, 8] (fun s i => ∃ k : Nat, k ≤ n ∧ i = .int .i64 k ∧ s = .int .i64 (sumL (xs.take k))) (fun _ i => n - (intOf i).toNat)
  case atStart => exact ⟨0, Nat.zero_le _, rfl, rfl⟩
  case round =>
    obtain ⟨k, hk, rfl, rfl⟩ := hrel
    by_cases hlt : k < n
    · have hcell := HC.out k hlt
      have HS := Lib.hid (sumL_snoc xs k (by have := HN.out; omega))
      go_wp2_with (go_at_call 62; refine (add_any _ _ _).mono ?_; rintro e w1 ⟨rfl, rfl⟩)
      go_round
      case rel => exact ⟨k + 1, by omega, by go_num, by rw [HS.out]; rfl⟩
      case measure => simp [intOf]; omega
    · have HE := Lib.hid (show sumL (xs.take k) = sumL xs by rw [show k = xs.length by have := HN.out; omega]; exact sumL_all xs)
      go_wp2
      go_ret
      exact ⟨ret_int HE.out, rfl⟩

theorem sum_own {B : Nat} {v : Value} {xs : List Int} {w : World} (hm : xs.length ≤ 9223372036854775807) (h : w.ownsRow B 45 1 v xs.length (xs.map (Value.int .i64))) :
    Calls Tryd.prog 141 #[v] w fun e w' => e = .returned (.int .i64 (sumL xs)) ∧ w = w' := by
  rcases h.2 with ⟨rfl, hn⟩ | ⟨g, cap, cur, rfl, -, -, -, -, -, -⟩
  · obtain rfl : xs = [] := List.length_eq_zero_iff.1 hn
    exact sum_none none 0 w
  · refine sum_row g xs.length cap xs rfl hm w fun j hj => ?_
    rw [h.cellAt j (by omega)]
    simp [hj]

end Go.Proofs.YtpinpkhalccjhaaDoor.Ls
