/- Layer 7: the document's bytes of a number, a point, a blob: contracts. -/
import Derived.Test.YtjejghfeeonghaaDoorRit
import Derived.Laws.AppendOwnNone
import Derived.Deep.DeepCutAuto
namespace Go.Proofs.YtjejghfeeonghaaDoor.Re
open Go.RowKit Go.Proofs.YtjejghfeeonghaaDoor Go.Proofs.YtjejghfeeonghaaDoor.Rp
set_option linter.unusedVariables false

/-- what the loop of the document's Num keeps -/
def NumRel (w : World) (l : List UInt8) (n : Nat) (k : Nat) (m v : Value) (wr : World) : Prop :=
  m = .int .u64 (n / 256 ^ k : Nat) ∧ Hid (wr.ownsRow w.heap.size 5 1 v (l ++ bytesOf n k).length (vals (l ++ bytesOf n k))) ∧ Below w.heap.size w wr

theorem div_step (n k : Nat) : n / 256 ^ k / 256 = n / 256 ^ (k + 1) := by rw [Nat.div_div_eq_div_mul, Nat.pow_succ]

theorem vals_one1 (x : Int) (b : UInt8) (hx : x = (b.toNat : Int)) (w : World) (B : Nat) (hB : B = w.heap.size) : ∀ j u, (vals [b])[j]? = some u → (w.alloc (.cells #[.int .u8 x] 5)).cell? ((⟨B, 0, none⟩ : Addr).add j) = some u := by
  subst hB
  intro j u hu
  match j, hu with
  | 0, hu => simp [vals] at hu; subst hu; subst hx; simp [Addr.add]
  | j + 1, hu => simp [vals] at hu

end Go.Proofs.YtjejghfeeonghaaDoor.Re
