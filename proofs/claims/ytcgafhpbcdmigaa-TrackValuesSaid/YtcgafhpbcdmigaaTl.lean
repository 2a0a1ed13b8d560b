/- The contract of the document's own word on the place of a time. -/
import Derived.Test.YtcgafhpbcdmigaaTk
import Derived.Test.YtcgafhpbcdmigaaVg
namespace Go.Proofs.Ytcgafhpbcdmigaa.Tk
open Go.RowKit Go.Proofs.Ytcgafhpbcdmigaa Go.Proofs.Ytcgafhpbcdmigaa.Wa Go.Proofs.Ytcgafhpbcdmigaa.Ve

theorem rplace_none (way : Int) (a : Option Addr) (cap : Nat) (t : Int) (w : World) :
    Calls Try.prog 39 #[.agg #[.int .i64 way, .slice a 0 cap], .int .i64 t] w fun e w' => e = .returned (.int .i64 (-1)) ∧ Below w.heap.size w w' := by
  go_enter Try.func39, Try.ntmps39
  go_wp2
  refine wp_loop_rounds 1 ?_
  rw [rounds_succ]
  go_wp2
  go_ret
  exact ⟨rfl, below_n1 _ _⟩

set_option maxHeartbeats 1000000 in
theorem rplace_row (way : Int) (b off n cap : Nat) (L : Nat → Int) (t : Int) (hn : n * 32 ≤ 140737488351232) (w : World) (hc : ∀ j, j < n * 4 → w.cell? ⟨b, off + j, none⟩ = some (.int .i64 (L j))) :
    Calls Try.prog 39 #[.agg #[.int .i64 way, .slice (some ⟨b, off, none⟩) n cap], .int .i64 t] w fun e w' => e = .returned (.int .i64 (plc L t n)) ∧ Below w.heap.size w w' := by
  have HC := Lib.hid hc
  clear hc
  have hb0 := below_n1 w (.cells #[.int .i64 way, .slice (some ⟨b, off, none⟩) n cap] 55)
  go_enter Try.func39, Try.ntmps39
  go_wp2
  go_loop [5, 6] (fun s i => ∃ k : Nat, k ≤ n ∧ i = .int .i64 k ∧ s = .int .i64 (plc L t k)) (fun _ i => n - (intOf i).toNat)
  case atStart => exact ⟨0, Nat.zero_le _, rfl, rfl⟩
  case round =>
    obtain ⟨k, hk, rfl, rfl⟩ := hrel
    by_cases hlt : k < n
    · have hlt' : (k : Int) < n := by omega
      have c0 := held_on hb0 (four_of HC.out hlt).1
      by_cases ht : L (k * 4) ≤ t
      · have HS := Lib.hid (show (k : Int) = plc L t (k + 1) from (if_pos ht).symm)
        go_wp2
        go_round
        case rel => exact ⟨k + 1, by omega, by go_num, by rw [← HS.out]⟩
        case measure => simp [intOf]; omega
      · have HS := Lib.hid (show plc L t k = plc L t (k + 1) from (if_neg ht).symm)
        go_wp2
        go_round
        case rel => exact ⟨k + 1, by omega, by go_num, by rw [← HS.out]⟩
        case measure => simp [intOf]; omega
    · obtain rfl : k = n := by omega
      go_wp2
      go_ret
      exact ⟨rfl, hb0⟩

theorem rplace_any (way : Int) (a : Option Addr) (n cap : Nat) (L : Nat → Int) (t : Int) (w : World) (hr : KeysAt w a n L) :
    Calls Try.prog 39 #[.agg #[.int .i64 way, .slice a n cap], .int .i64 t] w fun e w' => e = .returned (.int .i64 (plc L t n)) ∧ Below w.heap.size w w' := by
  obtain ⟨h0, hr⟩ := hr
  by_cases hz : n = 0
  · subst hz; exact rplace_none way a cap t w
  · rcases hr with h' | ⟨b, off, rfl, -, hc⟩
    · exact absurd h' hz
    · exact rplace_row way b off n cap L t h0 w hc
end Go.Proofs.Ytcgafhpbcdmigaa.Tk
