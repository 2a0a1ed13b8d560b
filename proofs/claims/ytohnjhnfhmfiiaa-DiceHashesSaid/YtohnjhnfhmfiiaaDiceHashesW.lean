/- The walk of DiceHashes: the law returns true, whatever list of numbers comes in; nothing that was there is written. -/
import Derived.Test.YtohnjhnfhmfiiaaDk
namespace Go.Proofs.Ytohnjhnfhmfiiaa.diceHashesW
open Go.RowKit Go.Proofs.Ytohnjhnfhmfiiaa Go.Proofs.Ytohnjhnfhmfiiaa.Di Go.Proofs.Ytohnjhnfhmfiiaa.Ls

theorem walk_none (a : Option Addr) (cap : Nat) (w : World) : Calls Try.prog 10 #[.slice a 0 cap] w fun e w' => e = .returned (.bool true) ∧ Below w.heap.size w w' := by
  go_enter Try.func10, Try.ntmps10
  go_wp2_with (first | (go_at_call 51; refine (awake_any _).mono ?_; rintro e w1 ⟨rfl, hb1⟩) | (go_at_call 52; refine (hash_none _ _ _).mono ?_; rintro e w1 ⟨rfl, rfl⟩) | (go_at_call 53; refine (rhash_none _ _ _).mono ?_; rintro e w1 ⟨rfl, rfl⟩))
  go_ret
  exact ⟨rfl, hb1⟩

theorem walk (a : Option Addr) (len cap : Nat) (zs : List Int) (w : World) (hr : IsRow .u64 w a len zs) :
    Calls Try.prog 10 #[.slice a len cap] w fun e w' => e = .returned (.bool true) ∧ Below w.heap.size w w' := by
  rcases hr with rfl | ⟨b, off, rfl, hb, hz, hreach, hc⟩
  · exact walk_none a cap w
  · have hl : (zs.take len).length = len := by rw [List.length_take]; omega
    have hg : ∀ j, j < len → (zs.take len).getD j 0 = zs.getD j 0 := fun j hj => by simp [List.getD, hj]
    have HC := Lib.hid hc
    clear hc
    go_enter Try.func10, Try.ntmps10
    go_wp2_with (first | (go_at_call 51; refine (awake_any _).mono ?_; rintro e w1 ⟨rfl, hb1⟩) | (go_at_call 52; refine (hash_row b off len cap (zs.take len) hl.symm (by omega) _ (fun j hj => by rw [hg j hj]; exact (hb1.cell (p := ⟨b, off + j, none⟩) hb).trans (HC.out j hj))).mono ?_; rintro e w1 ⟨rfl, rfl⟩) | (go_at_call 53; refine (rhash_row b off len cap (zs.take len) hl.symm (by omega) _ (fun j hj => by rw [hg j hj]; exact (hb1.cell (p := ⟨b, off + j, none⟩) hb).trans (HC.out j hj))).mono ?_; rintro e w1 ⟨rfl, rfl⟩))
    go_ret
    exact ⟨rfl, hb1⟩
end Go.Proofs.Ytohnjhnfhmfiiaa.diceHashesW
