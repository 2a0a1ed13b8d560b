/- Layer 7: the document's bytes of a number, a point, a blob: contracts. -/
import Derived.Test.YtcohehekkeeeoaaDoorF13
import Derived.Laws.AppendOwnNone
import Derived.Deep.DeepCutAuto
namespace Go.Proofs.YtcohehekkeeeoaaDoor.Re
open Go.RowKit Go.Proofs.YtcohehekkeeeoaaDoor Go.Proofs.YtcohehekkeeeoaaDoor.Rp
set_option linter.unusedVariables false

/-- what the loop of the document's Num keeps -/
def NumRel (w : World) (l : List UInt8) (n : Nat) (k : Nat) (m v : Value) (wr : World) : Prop :=
  m = .int .u64 (n / 256 ^ k : Nat) ∧ Hid (wr.ownsRow w.heap.size 5 1 v (l ++ bytesOf n k).length (vals (l ++ bytesOf n k))) ∧ Below w.heap.size w wr

theorem div_step (n k : Nat) : n / 256 ^ k / 256 = n / 256 ^ (k + 1) := by rw [Nat.div_div_eq_div_mul, Nat.pow_succ]

theorem vals_one1 (x : Int) (b : UInt8) (hx : x = (b.toNat : Int)) (w : World) (B : Nat) (hB : B = w.heap.size) : ∀ j u, (vals [b])[j]? = some u → (w.alloc (.cells #[.int .u8 x] 5)).cell? ((⟨B, 0, none⟩ : Addr).add j) = some u := by
  subst hB
  intro j u hu
  match j, hu with
  | 0, hu => simp [vals] at hu; subst hu; subst hx; simp [Addr.add]
  | j + 1, hu => simp [vals] at hu

end Go.Proofs.YtcohehekkeeeoaaDoor.Re

/- Layer 7: the document's bytes of a point and of a blob: contracts. -/
namespace Go.Proofs.YtcohehekkeeeoaaDoor.Re
open Go.RowKit Go.Proofs.YtcohehekkeeeoaaDoor Go.Proofs.YtcohehekkeeeoaaDoor.Rp
set_option linter.unusedVariables false

theorem own_mono {w : World} {b1 b2 : Nat} {e : TypeId} {size n : Nat} {v : Value} {xs : List Value} (h : w.ownsRow b1 e size v n xs) (hb : b2 ≤ b1) : w.ownsRow b2 e size v n xs := by
  refine ⟨h.1, ?_⟩
  rcases h.2 with h | ⟨q, cap, cur, h1, h2, h3⟩
  · exact .inl h
  · exact .inr ⟨q, cap, cur, h1, by omega, h3⟩

theorem three_at (x y z : Int) (w : World) (t : TypeId) (k : Nat) (hk : k < 3) : (w.alloc (.cells #[.int .i64 x, .int .i64 y, .int .i64 z] t)).cell? ⟨w.heap.size, k, none⟩ = some (.int .i64 ([x, y, z].getD k 0)) := by
  match k, hk with
  | 0, _ => go_simp
  | 1, _ => go_simp
  | 2, _ => go_simp

end Go.Proofs.YtcohehekkeeeoaaDoor.Re
