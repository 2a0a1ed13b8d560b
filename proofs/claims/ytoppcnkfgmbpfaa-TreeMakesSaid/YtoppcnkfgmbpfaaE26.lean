/- Trees, plainly: the part that the program reckons is the document's. -/
import Derived.Test.YtoppcnkfgmbpfaaE25
namespace Go.Proofs.Ytoppcnkfgmbpfaa.Tr
open Go.RowKit Go.Proofs.Ytoppcnkfgmbpfaa Go.Proofs.Ytoppcnkfgmbpfaa.Wa Go.Proofs.Ytoppcnkfgmbpfaa.Ve

theorem eight : Pl.ofWhole 8 = 524288 := by decide +kernel

theorem part_same (x low wide : Int) : min (Pl.held (Pl.mul (Pl.div (Pl.sub x low) wide) 524288) / 65536) 7 = part x low wide := by
  have hc : Pl.mul (Pl.div (Pl.sub x low) wide) 524288 = Pl.mul 524288 (Pl.div (Pl.sub x low) wide) := by
    unfold Pl.mul
    rw [Int.mul_comm]
  unfold part
  rw [hc]
  obtain ⟨m, hm⟩ : ∃ m, m = Pl.mul 524288 (Pl.div (Pl.sub x low) wide) := ⟨_, rfl⟩
  have h1 : -2147483648 ≤ m := by rw [hm]; exact Pl.held_lo _
  have h2 : m ≤ 2147483648 := by rw [hm]; exact Pl.held_hi _
  rw [← hm, Pl.held_in h1 h2]
  split <;> omega

end Go.Proofs.Ytoppcnkfgmbpfaa.Tr
