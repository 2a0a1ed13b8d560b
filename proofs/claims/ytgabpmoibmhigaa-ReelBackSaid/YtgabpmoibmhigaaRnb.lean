/- Layer 7: values copied into a row of their own; numbers held in place. -/
import Derived.Test.YtgabpmoibmhigaaRna
import Derived.Test.YtgabpmoibmhigaaRfi
import Derived.Laws.AppendOwnNone
namespace Go.Proofs.Ytgabpmoibmhigaa.Re
open Go.RowKit Go.Proofs.Ytgabpmoibmhigaa Go.Proofs.Ytgabpmoibmhigaa.Rp
set_option linter.unusedVariables false

theorem infoItem : (Try.prog.info? 33).map (fun i => (i.zero, i.size, i.bytes)) = some (some (.agg Z39), 39, 104) := by kernel_rfl

/-- the cells of the first values, one behind the other -/
def flat (L : Nat → It) : Nat → List Value
  | 0 => []
  | k + 1 => flat L k ++ (L k).cells
theorem flat_length {L : Nat → It} {n : Nat} (hok : ∀ k, k < n → ItOk (L k)) : ∀ k, k ≤ n → (flat L k).length = k * 39
  | 0, _ => rfl
  | k + 1, hk => by
    rw [flat, List.length_append, flat_length hok k (by omega), It.cells_length (hok k (by omega))]; omega
theorem flat_get {L : Nat → It} {n : Nat} (hok : ∀ k, k < n → ItOk (L k)) : ∀ k, k ≤ n → ∀ i c, i < k → c < 39 → (flat L k)[i * 39 + c]? = (L i).cells[c]?
  | 0, _, i, c, hi, _ => by omega
  | k + 1, hk, i, c, hi, hc => by
    have hl := flat_length hok k (by omega)
    rw [flat]
    by_cases e : i < k
    · rw [List.getElem?_append_left (by omega)]; exact flat_get hok k (by omega) i c e hc
    · obtain rfl : i = k := by omega
      rw [List.getElem?_append_right (by omega), hl]
      congr 1; omega
theorem flat_one (L : Nat → It) : ∀ n, ∀ u ∈ flat L n, u.oneCell' = true
  | 0, u, h => by simp [flat] at h
  | n + 1, u, h => by
    rw [flat, List.mem_append] at h
    rcases h with h | h
    · exact flat_one L n u h
    · exact (L n).one u h
theorem flat_at {L : Nat → It} {n : Nat} {b off : Nat} {w : World} (hok : ∀ k, k < n → ItOk (L k)) (hr : ∀ k, k < n → w.rangeAt b (off + k * 39) (L k).cells) (j : Nat) (u : Value) (hu : (flat L n)[j]? = some u) : w.cell? ((⟨b, off, none⟩ : Addr).add j) = some u := by
  have hj : j < n * 39 := by
    have := (List.getElem?_eq_some_iff.1 hu).1
    rwa [flat_length hok n (Nat.le_refl _)] at this
  have hi : j / 39 < n := by omega
  have e : j = j / 39 * 39 + j % 39 := by omega
  rw [e, flat_get hok n (Nat.le_refl _) _ _ hi (by omega)] at hu
  have := hr _ hi _ _ hu
  rw [Addr.add_mid]
  rw [show off + j = off + j / 39 * 39 + j % 39 by omega]
  exact this
theorem row_of_own {L : Nat → It} {n q cap base : Nat} {w : World} (hok : ∀ k, k < n → ItOk (L k)) (h : w.ownsRow base 33 39 (.slice (some ⟨q, 0, none⟩) n cap) n (flat L n)) : Row39 q n L w ∧ base ≤ q ∧ q < w.heap.size := by
  have hlt := h.lt q rfl
  refine ⟨⟨fun i hi j v hv => ?_, fun j => h.frozenAt j, fun _ => hlt.2⟩, hlt.1, hlt.2⟩
  have hj : j < 39 := by
    have := (List.getElem?_eq_some_iff.1 hv).1
    rwa [It.cells_length (hok i hi)] at this
  rw [h.cellAt (i * 39 + j) (by omega), flat_get hok n (Nat.le_refl _) i j hi hj]; exact hv

theorem hold_any (z : Int) (w : World) :
    Calls Try.prog 18 #[.int .i64 z] w fun e w' => e = .returned (.int .i64 (hold z)) ∧ w' = w := by
  unfold hold
  go_enter Try.func18, Try.ntmps18
  go_wp2
  all_goals go_ret
  all_goals refine ⟨congrArg (fun z => Ending.returned (Value.int .i64 z)) ?_, rfl⟩
  all_goals rfl

/-- a value with its number held, and so many of the point's -/
def It.half (x : It) (j : Nat) : It := { x with n := Re.hold x.n, v0 := if 0 < j then Re.hold x.v0 else x.v0, v1 := if 1 < j then Re.hold x.v1 else x.v1, v2 := if 2 < j then Re.hold x.v2 else x.v2 }
theorem It.half_three (x : It) : x.half 3 = x.hold := rfl
theorem It.half_ok {x : It} (h : ItOk x) (j : Nat) : ItOk (x.half j) := by
  have := hold_span x.n
  exact ⟨h.1, h.2.1, by show -9223372036854775808 ≤ Re.hold x.n ∧ Re.hold x.n ≤ 9223372036854775807; omega, h.2.2.2⟩
def It.vv (x : It) (j : Nat) : Int := if j = 0 then x.v0 else if j = 1 then x.v1 else x.v2
theorem It.half_cell (x : It) (j : Nat) (hj : j < 3) : (x.half j).cells[2 + j]? = some (.int .i64 (x.vv j)) := by
  match j, hj with
  | 0, _ => rfl
  | 1, _ => rfl
  | 2, _ => rfl
theorem It.half_set (x : It) (j : Nat) (hj : j < 3) : (x.half (j + 1)).cells = (x.half j).cells.set (2 + j) (.int .i64 (Re.hold (x.vv j))) := by
  match j, hj with
  | 0, _ => rfl
  | 1, _ => rfl
  | 2, _ => rfl
theorem It.half_zero (x : It) : (x.half 0).cells = x.cells.set 1 (.int .i64 (Re.hold x.n)) := rfl

theorem Row39.congr {q n : Nat} {M M' : Nat → It} {w : World} (h : Row39 q n M w) (he : ∀ k, k < n → M k = M' k) : Row39 q n M' w :=
  ⟨fun i hi => by rw [← he i hi]; exact h.1 i hi, h.2⟩
/-- the values while they are being held: the first k are, and of the next its number and j of its point -/
def held (L : Nat → It) (k : Nat) : Nat → It := fun i => if i < k then (L i).hold else L i
def heldV (L : Nat → It) (k j : Nat) : Nat → It := fun i => if i < k then (L i).hold else if i = k then (L i).half j else L i
theorem held_ok {L : Nat → It} {n : Nat} (hok : ∀ k, k < n → ItOk (L k)) (k : Nat) : ∀ i, i < n → ItOk (held L k i) := fun i hi => by
  unfold held; split
  · exact It.hold_ok (hok i hi)
  · exact hok i hi
theorem heldV_ok {L : Nat → It} {n : Nat} (hok : ∀ k, k < n → ItOk (L k)) (k j : Nat) : ∀ i, i < n → ItOk (heldV L k j i) := fun i hi => by
  unfold heldV; split
  · exact It.hold_ok (hok i hi)
  · split
    · exact It.half_ok (hok i hi) j
    · exact hok i hi
theorem row_n {L : Nat → It} {q n k : Nat} {w : World} (hok : ∀ k, k < n → ItOk (L k)) (hk : k < n) (h : Row39 q n (held L k) w) : Row39 q n (heldV L k 0) (w.setCell ⟨q, k * 39 + 1, none⟩ (.int .i64 (hold (L k).n))) :=
  (h.put (i := k) (c := 1) hk (held_ok hok k) ((L k).half 0) (It.half_ok (hok k hk) 0) (.int .i64 (hold (L k).n)) (by omega) (by rw [show held L k k = L k from if_neg (by omega)]; exact It.half_zero _)).congr fun i hi => by
    unfold held heldV
    by_cases e : i = k
    · subst e; simp
    · simp only [if_neg e]
theorem row_v {L : Nat → It} {q n k j : Nat} {w : World} (hok : ∀ k, k < n → ItOk (L k)) (hk : k < n) (hj : j < 3) (h : Row39 q n (heldV L k j) w) : Row39 q n (heldV L k (j + 1)) (w.setCell ⟨q, k * 39 + (2 + j), none⟩ (.int .i64 (hold ((L k).vv j)))) :=
  (h.put (i := k) (c := 2 + j) hk (heldV_ok hok k j) ((L k).half (j + 1)) (It.half_ok (hok k hk) _) _ (by omega) (by rw [show heldV L k j k = (L k).half j by unfold heldV; rw [if_neg (by omega), if_pos rfl]]; exact It.half_set _ j hj)).congr fun i hi => by
    unfold heldV
    by_cases e : i = k
    · subst e; simp
    · simp only [if_neg e]
theorem row_next {L : Nat → It} {q n k : Nat} {w : World} (h : Row39 q n (heldV L k 3) w) : Row39 q n (held L (k + 1)) w :=
  h.congr fun i hi => by
    unfold held heldV
    by_cases e : i < k
    · rw [if_pos e, if_pos (by omega)]
    · by_cases e2 : i = k
      · subst e2; rw [if_neg e, if_pos rfl, if_pos (by omega)]; rfl
      · rw [if_neg e, if_neg e2, if_neg (by omega)]
theorem row_n_cell {L : Nat → It} {q n k : Nat} {w : World} (hk : k < n) (h : Row39 q n (held L k) w) : w.cell? ⟨q, k * 39 + 1, none⟩ = some (.int .i64 (L k).n) :=
  h.1 k hk 1 _ (by rw [show held L k k = L k from if_neg (by omega)]; rfl)
theorem row_v_cell {L : Nat → It} {q n k j : Nat} {w : World} (hk : k < n) (hj : j < 3) (h : Row39 q n (heldV L k j) w) : w.cell? ⟨q, k * 39 + (2 + j), none⟩ = some (.int .i64 ((L k).vv j)) :=
  h.1 k hk (2 + j) _ (by rw [show heldV L k j k = (L k).half j by unfold heldV; rw [if_neg (by omega), if_pos rfl]]; exact It.half_cell _ j hj)
end Go.Proofs.Ytgabpmoibmhigaa.Re
