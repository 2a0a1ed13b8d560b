/- Lights smoothed: a pixel smoothed, by the document. -/
import Derived.Test.YtpinpkhalccjhaaDoorF43
import Derived.Test.YtpinpkhalccjhaaDoorF30
namespace Go.Proofs.YtpinpkhalccjhaaDoor.Fm
open Go Go.RowKit Go.Proofs.YtpinpkhalccjhaaDoor Go.Proofs.YtpinpkhalccjhaaDoor.Rp Go.Proofs.YtpinpkhalccjhaaDoor.Re Go.Proofs.YtpinpkhalccjhaaDoor.Au Go.Proofs.YtpinpkhalccjhaaDoor.Jw
set_option linter.unusedVariables false
set_option linter.unusedSimpArgs false

theorem wrap_in {z : Int} (h0 : -4611686018427387904 ≤ z) (h1 : z ≤ 4611686018427387904) : wrap64 z = z ∧ IntKind.i64.wrap z = z := by
  refine ⟨?_, ?_⟩
  · unfold wrap64; omega
  · rw [IntKind.wrap_i64]; omega

theorem wrap_is {z t : Int} (h : z = t) (h0 : -4611686018427387904 ≤ t) (h1 : t ≤ 4611686018427387904) : wrap64 z = t ∧ IntKind.i64.wrap z = t := by
  subst h; exact wrap_in h0 h1

theorem idx_lt2 {x y Wn Hn : Nat} (hx : x < Wn) (hy : y < Hn) : y * Wn + x < Wn * Hn := by
  have b := Nat.mul_le_mul_right Wn (show y + 1 ≤ Hn by omega)
  rw [Nat.add_mul, Nat.one_mul, Nat.mul_comm Hn Wn] at b
  omega

theorem mid_facts {x y Wn Hn n : Nat} (hx : x < Wn) (hy : y < Hn) (hn : n = Wn * Hn) (h4 : n ≤ 4096) : ∃ yw mid : Nat, (wrap64 ((y : Int) * (Wn : Int)) = (yw : Int) ∧ IntKind.i64.wrap ((y : Int) * (Wn : Int)) = (yw : Int)) ∧ (wrap64 ((yw : Int) + (x : Int)) = (mid : Int) ∧ IntKind.i64.wrap ((yw : Int) + (x : Int)) = (mid : Int)) ∧ mid < n ∧ mid = y * Wn + x := by
  have h := idx_lt2 hx hy
  rw [← hn] at h
  obtain ⟨yw, hyw⟩ : ∃ t, t = y * Wn := ⟨_, rfl⟩
  rw [← hyw] at h
  refine ⟨yw, yw + x, ?_, ?_, h, by rw [hyw]⟩
  · have e : (y : Int) * (Wn : Int) = (yw : Int) := by rw [← Int.natCast_mul, ← hyw]
    clear hyw
    exact wrap_is e (by omega) (by omega)
  · clear hyw
    exact wrap_is (by push_cast; rfl) (by omega) (by omega)

end Go.Proofs.YtpinpkhalccjhaaDoor.Fm
