/- Layer 21 (plate): rows of bytes and of dots in memory. -/
import Derived.Test.YtcohehekkeeeoaaDoorF05
import Derived.Test.YtcohehekkeeeoaaDoorF09
import Derived.Test.YtcohehekkeeeoaaDoorF10
namespace Go.Proofs.YtcohehekkeeeoaaDoor.Pg
open Go Go.RowKit Go.Proofs.YtcohehekkeeeoaaDoor Go.Proofs.YtcohehekkeeeoaaDoor.Re Go.Proofs.YtcohehekkeeeoaaDoor.Au
set_option linter.unusedVariables false
set_option linter.unusedSimpArgs false

theorem add_at (g o j : Nat) : (⟨g, o, none⟩ : Addr).add j = ⟨g, o + j, none⟩ := by unfold Addr.add; split <;> simp_all

theorem add_add (a : Addr) (n m : Nat) : (a.add n).add m = a.add (n + m) := by
  unfold Addr.add
  split <;> split <;> simp_all [Nat.add_assoc]

theorem vals_get {l : List UInt8} {j : Nat} (h : j < l.length) : (vals l)[j]? = some (.int .u8 ((l.getD j 0).toNat : Int)) := by
  simp [vals, List.getD, h]

theorem vals_drop (l : List UInt8) (k : Nat) : vals (l.drop k) = (vals l).drop k := by simp [vals, List.map_drop]

theorem vals_take (l : List UInt8) (k : Nat) : vals (l.take k) = (vals l).take k := by simp [vals, List.map_take]

/-- a slice of bytes, with its room -/
def BA (w : World) (a : Option Addr) (n c : Nat) (l : List UInt8) : Prop :=
  n = l.length ∧ n ≤ c ∧ ∀ j u, (vals l)[j]? = some u → ∃ ad, a = some ad ∧ w.cell? (ad.add j) = some u

theorem BA.on {w w' : World} {a : Option Addr} {n c : Nat} {l : List UInt8} (h : BA w a n c l) (hb : Below w.heap.size w w') : BA w' a n c l :=
  ⟨h.1, h.2.1, fun j u hu => by
    obtain ⟨ad, ha, hc⟩ := h.2.2 j u hu
    exact ⟨ad, ha, by rw [hb.cell (World.block_lt_of_cell? w _ hc)]; exact hc⟩⟩

theorem BA.byte {w : World} {a : Option Addr} {n c : Nat} {l : List UInt8} (h : BA w a n c l) {k : Nat} (hk : k < n) : ∃ ad, a = some ad ∧ w.cell? (ad.add k) = some (.int .u8 ((l.getD k 0).toNat : Int)) :=
  h.2.2 k _ (vals_get (by have := h.1; omega))

theorem BA.drop {w : World} {a : Option Addr} {n c : Nat} {l : List UInt8} (h : BA w a n c l) {k : Nat} (hk : k ≤ n) : BA w (if c = k then a else a.map (·.add k)) (n - k) (c - k) (l.drop k) := by
  obtain ⟨h1, h2, h3⟩ := h
  refine ⟨by rw [List.length_drop]; omega, by omega, fun j u hu => ?_⟩
  have hj : j < (l.drop k).length := by
    have := (List.getElem?_eq_some_iff.1 hu).1
    rwa [vals_length] at this
  rw [List.length_drop] at hj
  rw [if_neg (by omega)]
  rw [vals_drop, List.getElem?_drop] at hu
  obtain ⟨ad, rfl, hc⟩ := h3 _ u hu
  exact ⟨ad.add k, rfl, by rw [add_add]; exact hc⟩

theorem BA.take {w : World} {a : Option Addr} {n c : Nat} {l : List UInt8} (h : BA w a n c l) {k : Nat} (hk : k ≤ n) : BA w a k c (l.take k) := by
  obtain ⟨h1, h2, h3⟩ := h
  refine ⟨by rw [List.length_take]; omega, by omega, fun j u hu => ?_⟩
  rw [vals_take, List.getElem?_take] at hu
  split at hu
  · exact h3 j u hu
  · simp at hu

theorem BA.conv {w : World} {a : Option Addr} {n c : Nat} {l : List UInt8} (h : BA w a n c l) (hl : l ≠ []) : (convert 56 9 (.slice a n c)).run Tryd.prog w = .ok (.string ⟨l.toArray⟩) w := by
  obtain ⟨h1, h2, h3⟩ := h
  have hlen : 0 < l.length := List.length_pos_iff.2 hl
  obtain ⟨ad, rfl, -⟩ := h3 0 _ (vals_get hlen)
  subst h1
  exact run_convert_bytes_back (P := Tryd.prog) w 56 9 5 ad c l Tryd.underlying56 Tryd.underlying5 Tryd.underlying9 (fun j hj => by
    obtain ⟨ad', e, hc⟩ := h3 j _ (vals_get hj)
    cases e
    rw [hc]
    simp [List.getD, hj])

theorem ba_own {base : Nat} {w : World} {a : Option Addr} {n c : Nat} {l : List UInt8} (hn : n = l.length) (h : w.ownsRow base 5 1 (.slice a n c) n (vals l)) : BA w a n c l := by
  rcases h.2 with ⟨he, h0⟩ | ⟨q, cap, cur, he, h1, h2, h3⟩
  · cases he
    exact ⟨hn, by omega, fun j u hu => by
      have := (List.getElem?_eq_some_iff.1 hu).1
      rw [vals_length] at this
      omega⟩
  · cases he
    exact ⟨hn, by have := h.1; simp_all; try omega, fun j u hu => ⟨_, rfl, h.cells (g := q) rfl j u hu⟩⟩

/-- rows of dots, three bytes each -/
def Dt (w : World) (a : Option Addr) (n : Nat) (D : List UInt8) : Prop :=
  D.length = 3 * n ∧ ∀ j u, (vals D)[j]? = some u → ∃ b o, a = some ⟨b, o, none⟩ ∧ w.cell? ⟨b, o + j, none⟩ = some u

theorem Dt.on {w w' : World} {a : Option Addr} {n : Nat} {D : List UInt8} (h : Dt w a n D) (hb : Below w.heap.size w w') : Dt w' a n D :=
  ⟨h.1, fun j u hu => by
    obtain ⟨b, o, ha, hc⟩ := h.2 j u hu
    exact ⟨b, o, ha, by rw [hb.cell (World.block_lt_of_cell? w _ hc)]; exact hc⟩⟩

theorem dt_own {base : Nat} {w : World} {e : TypeId} {a : Option Addr} {n c : Nat} {D : List UInt8} (hn : D.length = 3 * n) (h : w.ownsRow base e 3 (.slice a n c) n (vals D)) : Dt w a n D := by
  refine ⟨hn, fun j u hu => ?_⟩
  rcases h.2 with ⟨he, h0⟩ | ⟨q, cap, cur, he, h1, h2, h3⟩
  · have := (List.getElem?_eq_some_iff.1 hu).1
    rw [vals_length] at this
    omega
  · cases he
    exact ⟨q, 0, rfl, by have := h.cells (g := q) rfl j u hu; rwa [add_at] at this⟩

/-- a byte of a list, as a number -/
def bn (D : List UInt8) (j : Nat) : Nat := (D.getD j 0).toNat

theorem bn_lt (D : List UInt8) (j : Nat) : bn D j < 256 := (D.getD j 0).toNat_lt

theorem Dt.at {w : World} {a : Option Addr} {n : Nat} {D : List UInt8} (h : Dt w a n D) {k : Nat} (hk : k < n) : ∃ b o, a = some ⟨b, o, none⟩ ∧ w.cell? ⟨b, o + k * 3, none⟩ = some (.int .u8 (bn D (k * 3) : Nat)) ∧ w.cell? ⟨b, o + k * 3 + 1, none⟩ = some (.int .u8 (bn D (k * 3 + 1) : Nat)) ∧ w.cell? ⟨b, o + k * 3 + 2, none⟩ = some (.int .u8 (bn D (k * 3 + 2) : Nat)) := by
  have hl := h.1
  obtain ⟨b, o, ha, h0⟩ := h.2 (k * 3) _ (vals_get (by omega))
  obtain ⟨b1, o1, ha1, h1⟩ := h.2 (k * 3 + 1) _ (vals_get (by omega))
  obtain ⟨b2, o2, ha2, h2⟩ := h.2 (k * 3 + 2) _ (vals_get (by omega))
  rw [ha] at ha1 ha2
  cases ha1
  cases ha2
  exact ⟨b, o, ha, h0, by rw [Nat.add_assoc]; exact h1, by rw [Nat.add_assoc]; exact h2⟩

theorem take3 {D : List UInt8} {k : Nat} (h : k * 3 + 3 ≤ D.length) : vals (D.take ((k + 1) * 3)) = vals (D.take (k * 3)) ++ [.int .u8 (bn D (k * 3) : Nat), .int .u8 (bn D (k * 3 + 1) : Nat), .int .u8 (bn D (k * 3 + 2) : Nat)] := by
  apply List.ext_getElem?
  intro i
  have hb : ∀ j, j < D.length → D[j]? = some (D.getD j 0) := fun j hj => by simp [List.getD, hj]
  rw [List.getElem?_append]
  simp only [vals, List.length_map, List.length_take]
  rw [Nat.min_eq_left (by omega)]
  by_cases hi : i < k * 3
  · rw [if_pos hi, List.getElem?_map, List.getElem?_map, List.getElem?_take, List.getElem?_take, if_pos hi, if_pos (by omega)]
  · rw [if_neg hi, List.getElem?_map, List.getElem?_take]
    by_cases h3 : i < (k + 1) * 3
    · rw [if_pos h3, hb i (by omega)]
      have hc : i = k * 3 ∨ i = k * 3 + 1 ∨ i = k * 3 + 2 := by omega
      rcases hc with rfl | rfl | rfl <;> simp [bn]
    · rw [if_neg h3]
      simp
      omega

end Go.Proofs.YtcohehekkeeeoaaDoor.Pg
