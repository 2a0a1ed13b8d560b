/- Layer 7, plain arithmetic: what is read back is what was laid. -/
import Derived.Test.YtgabpmoibmhigaaRmk
namespace Go.Proofs.Ytgabpmoibmhigaa.Re
open Go.RowKit Go.Proofs.Ytgabpmoibmhigaa Go.Proofs.Ytgabpmoibmhigaa.Rp
set_option linter.unusedVariables false

/-- a number held in the span -/
def hold (z : Int) : Int := if 2147483648 < z then 2147483648 else if z < -2147483648 then -2147483648 else z
theorem hold_span (z : Int) : -2147483648 ≤ hold z ∧ hold z ≤ 2147483648 := by unfold hold; split <;> (try split) <;> omega

theorem take_app (p l : List UInt8) (n : Nat) (h : p.length = n) : takeS (p ++ l, 0) n = (p, (l, 0)) := by
  subst h
  rw [takeS_ok (by simp)]
  simp
theorem num_app (m k : Nat) (l : List UInt8) : numS (bytesOf m k ++ l, 0) k = (m % 256 ^ k, (l, 0)) := by
  unfold numS; rw [take_app _ _ _ (bytesOf_length m k), numOf_bytesOf]
theorem sign_back (z : Int) (h : -2147483648 ≤ z ∧ z ≤ 2147483648) : sign40 (u64 z % 256 ^ 5) = z := by
  have e : (256 ^ 5 : Nat) = 1099511627776 := by decide
  rw [e]
  have hu := u64_cast z
  unfold sign40
  by_cases h0 : 0 ≤ z
  · have h1 : u64 z = z.toNat := by omega
    rw [h1, if_neg (by omega)]; omega
  · have h1 : (u64 z : Int) = z + 18446744073709551616 := by omega
    have h2 : u64 z % 1099511627776 = (z + 1099511627776).toNat := by omega
    rw [h2, if_pos (by omega)]; omega
theorem fix_app (z : Int) (l : List UInt8) (h : -2147483648 ≤ z ∧ z ≤ 2147483648) : fixS (bytesOf (u64 z) 5 ++ l, 0) = (z, (l, 0)) := by
  unfold fixS
  rw [num_app]
  simp only []
  rw [sign_back z h, if_neg (by omega)]
theorem fixK_one (s : St) : fixK s 1 = (fixS s).2 := rfl
theorem fixK_two (s : St) : fixK s 2 = (fixS (fixK s 1)).2 := rfl
theorem fixK_three (s : St) : fixK s 3 = (fixS (fixK s 2)).2 := rfl
theorem fixV_zero (s : St) : fixV s 0 = (fixS s).1 := rfl
theorem fixV_is (s : St) (k : Nat) : fixV s k = (fixS (fixK s k)).1 := rfl
theorem three_app (x y z : Int) (l : List UInt8) (hx : -2147483648 ≤ x ∧ x ≤ 2147483648) (hy : -2147483648 ≤ y ∧ y ≤ 2147483648) (hz : -2147483648 ≤ z ∧ z ≤ 2147483648) :
    (threeS (numsOf 5 [x, y, z] ++ l, 0)).1 0 = x ∧ (threeS (numsOf 5 [x, y, z] ++ l, 0)).1 1 = y ∧ (threeS (numsOf 5 [x, y, z] ++ l, 0)).1 2 = z ∧ (threeS (numsOf 5 [x, y, z] ++ l, 0)).2 = (l, 0) := by
  have e : numsOf 5 [x, y, z] ++ l = bytesOf (u64 x) 5 ++ (bytesOf (u64 y) 5 ++ (bytesOf (u64 z) 5 ++ l)) := by simp [numsOf]
  rw [e]
  have k1 : fixK (bytesOf (u64 x) 5 ++ (bytesOf (u64 y) 5 ++ (bytesOf (u64 z) 5 ++ l)), 0) 1 = (bytesOf (u64 y) 5 ++ (bytesOf (u64 z) 5 ++ l), 0) := by rw [fixK_one, fix_app x _ hx]
  have k2 : fixK (bytesOf (u64 x) 5 ++ (bytesOf (u64 y) 5 ++ (bytesOf (u64 z) 5 ++ l)), 0) 2 = (bytesOf (u64 z) 5 ++ l, 0) := by rw [fixK_two, k1, fix_app y _ hy]
  have k3 : fixK (bytesOf (u64 x) 5 ++ (bytesOf (u64 y) 5 ++ (bytesOf (u64 z) 5 ++ l)), 0) 3 = (l, 0) := by rw [fixK_three, k2, fix_app z _ hz]
  have v0 : fixV (bytesOf (u64 x) 5 ++ (bytesOf (u64 y) 5 ++ (bytesOf (u64 z) 5 ++ l)), 0) 0 = x := by rw [fixV_zero, fix_app x _ hx]
  have v1 : fixV (bytesOf (u64 x) 5 ++ (bytesOf (u64 y) 5 ++ (bytesOf (u64 z) 5 ++ l)), 0) 1 = y := by rw [fixV_is, k1, fix_app y _ hy]
  have v2 : fixV (bytesOf (u64 x) 5 ++ (bytesOf (u64 y) 5 ++ (bytesOf (u64 z) 5 ++ l)), 0) 2 = z := by rw [fixV_is, k2, fix_app z _ hz]
  generalize (bytesOf (u64 x) 5 ++ (bytesOf (u64 y) 5 ++ (bytesOf (u64 z) 5 ++ l)), (0 : Int)) = s at k1 k2 k3 v0 v1 v2 ⊢
  have hT : threeS s = (fixV s, (l, 0)) := by unfold threeS; rw [k3, if_neg (by simp)]
  rw [hT]
  exact ⟨v0, v1, v2, rfl⟩
theorem sum_app (d l : List UInt8) (h : d.length = 32) : sumS (d ++ l, 0) = (d, (l, 0)) := by
  unfold sumS
  rw [take_app d l 32 h, if_neg (fun e => by simp only [] at e; rw [e] at h; simp at h)]
theorem blob_app (p l : List UInt8) (h : p.length ≤ 3000) : blobS (bytesOf p.length 4 ++ p ++ l, 0) 3000 = (p, (l, 0)) := by
  unfold blobS
  rw [List.append_assoc, num_app]
  have e : p.length % 256 ^ 4 = p.length := Nat.mod_eq_of_lt (by omega)
  simp only [e]
  rw [if_neg (by omega), take_app p l p.length rfl]

/-- a value with its numbers held -/
def It.hold (x : It) : It := { x with n := Re.hold x.n, v0 := Re.hold x.v0, v1 := Re.hold x.v1, v2 := Re.hold x.v2 }
theorem It.hold_ok {x : It} (h : ItOk x) : ItOk x.hold := by
  have := hold_span x.n
  exact ⟨h.1, h.2.1, by show -9223372036854775808 ≤ Re.hold x.n ∧ Re.hold x.n ≤ 9223372036854775807; omega, h.2.2.2⟩

/-- the bytes of the values from a place on -/
def encsFrom (M : Nat → It) (n : Nat) : Nat → List UInt8
  | 0 => []
  | k + 1 => enc (M (n - (k + 1))) ++ encsFrom M n k
theorem encs_split (M : Nat → It) (n : Nat) : ∀ k, k ≤ n → encs M (n - k) ++ encsFrom M n k = encs M n
  | 0, _ => by simp [encsFrom]
  | k + 1, hk => by
    have ih := encs_split M n k (by omega)
    have e : n - k = n - (k + 1) + 1 := by omega
    rw [e] at ih
    rw [← ih]
    simp only [encs, encsFrom, List.append_assoc]
theorem encsFrom_all (M : Nat → It) (n : Nat) : encsFrom M n n = encs M n := by
  have := encs_split M n n (Nat.le_refl _)
  simpa [encs] using this

/-! ### rows of values that may be written -/
/-- values in a row of block q, from its start -/
def Row39 (q n : Nat) (M : Nat → It) (w : World) : Prop :=
  (∀ i, i < n → w.rangeAt q (i * 39) (M i).cells) ∧ (∀ j, w.frozen? ⟨q, j, none⟩ = false) ∧ (0 < n → q < w.heap.size)
theorem Row39.on {q n : Nat} {M : Nat → It} {w w' : World} (h : Row39 q n M w) (hb : Below w.heap.size w w') (hq : q < w.heap.size) : Row39 q n M w' :=
  ⟨fun i hi j v hv => (hb.cell (p := ⟨q, i * 39 + j, none⟩) hq).trans (h.1 i hi j v hv), fun j => (hb.frozen (p := ⟨q, j, none⟩) hq).trans (h.2.1 j), fun _ => Nat.lt_of_lt_of_le hq hb.size⟩
theorem Row39.put {q n : Nat} {M : Nat → It} {w : World} (h : Row39 q n M w) {i c : Nat} (hi : i < n) (hok : ∀ k, k < n → ItOk (M k)) (x : It) (hx : ItOk x) (u : Value) (hc : c < 39) (hu : x.cells = (M i).cells.set c u) :
    Row39 q n (fun k => if k = i then x else M k) (w.setCell ⟨q, i * 39 + c, none⟩ u) := by
  have hl := It.cells_length (hok i hi)
  have hcell : w.cell? ⟨q, i * 39 + c, none⟩ = some ((M i).cells[c]'(by omega)) := h.1 i hi c _ (by rw [List.getElem?_eq_getElem (by omega)])
  refine ⟨fun k hk j v hv => ?_, fun j => by rw [World.frozen?_setCell]; exact h.2.1 j, fun h0 => by simpa using h.2.2 h0⟩
  rw [cset hcell]
  by_cases e : k = i
  · subst e
    have hv2 : x.cells[j]? = some v := by simpa using hv
    clear hv
    have hv := hv2
    rw [hu, List.getElem?_set] at hv
    by_cases ej : c = j
    · subst ej
      rw [if_pos rfl, if_pos (by omega)] at hv
      rw [if_pos rfl]; exact hv
    · rw [if_neg ej] at hv
      rw [if_neg (by omega)]; exact h.1 k hi j v hv
  · simp only [if_neg e] at hv
    have hj : j < 39 := by
      have := (List.getElem?_eq_some_iff.1 hv).1
      rwa [It.cells_length (hok k hk)] at this
    rw [if_neg (by omega)]
    exact h.1 k hk j v hv
end Go.Proofs.Ytgabpmoibmhigaa.Re
