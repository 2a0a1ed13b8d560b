/- Layer 23: what the walk of DrumLasts wants. -/
import Derived.Test.YtjejghfeeonghaaDri
namespace Go.Proofs.Ytjejghfeeonghaa.Dr
open Go Go.RowKit Go.Maps Go.Proofs.Ytjejghfeeonghaa Go.Proofs.Ytjejghfeeonghaa.Au Go.Proofs.Ytjejghfeeonghaa.Re
set_option linter.unusedVariables false
set_option linter.unusedSimpArgs false

/-- six blocks as one row -/
def rowL (L : List Bk) : Array Value := (vals L.flatten).toArray

def Z6 : Array Value := rowL (List.replicate 6 zB)

def O0 : DOp := ⟨0, 0, 0, zB, none, 0, 0, []⟩

def ZO : Array Value := (OC O0).toArray

theorem zeroV6 (w : World) : (zeroValue 42).run Try.prog w = .ok (.agg Z6) w := by kernel_rfl

theorem zeroVO (w : World) : (zeroValue 33).run Try.prog w = .ok (.agg ZO) w := by kernel_rfl

theorem ZO_size : ZO.size = 132 := by decide +kernel

theorem Z6_size : Z6.size = 768 := by decide +kernel

def S6 : Dst := ⟨6, 0, -1, false, List.replicate 6 zB, []⟩

theorem s6_last : syncL S6.M S6.L = List.replicate 6 zB := by decide +kernel

/-- six blocks of 128 -/
def Six (L : List Bk) : Prop := L.length = 6 ∧ ∀ x ∈ L, x.length = 128

theorem rowL_size {L : List Bk} (h : Six L) : (rowL L).size = 768 := by
  unfold rowL
  simp only [List.size_toArray, vals_length]
  rw [flat_len L h.2, h.1]

theorem sync_six {M : List (Int × Bk)} {L : List Bk} (h : Six L) (hM : ∀ p ∈ M, p.2.length = 128) : Six (syncL M L) := by
  refine ⟨by rw [sync_len]; exact h.1, fun x hx => ?_⟩
  unfold syncL SL at hx
  obtain ⟨i, hi, rfl⟩ := List.mem_map.1 hx
  have hil : i < L.length := List.mem_range.1 hi
  have hg : (L.getD i zB).length = 128 := h.2 _ (by rw [List.getD_eq_getElem?_getD, List.getElem?_eq_getElem hil]; exact List.getElem_mem _)
  cases hf : findM M (i : Int) with
  | none => simp only [hf]; exact hg
  | some y => simp only [hf]; exact hM _ (find_mem hf)

theorem six_get {L : List Bk} (h : Six L) {i : Nat} (hi : i < 6) : (L.getD i zB).length = 128 :=
  h.2 _ (by rw [List.getD_eq_getElem?_getD, List.getElem?_eq_getElem (by rw [h.1]; exact hi)]; exact List.getElem_mem _)

theorem rowL_range {w : World} {q : Nat} {L : List Bk} {T : TypeId} (h : w.heap[q]? = some (.cells (rowL L) T (0, 0))) (hL : Six L) {k : Nat} (hk : k < 6) : w.rangeAt q (k * 128) (vals (L.getD k zB)) := fun j v hv => by
  have hj : j < 128 := by
    have := (List.getElem?_eq_some_iff.1 hv).1
    rw [vals_length, six_get hL hk] at this
    exact this
  have hx : L[k]? = some (L.getD k zB) := by rw [List.getD_eq_getElem?_getD, List.getElem?_eq_getElem (by rw [hL.1]; exact hk)]; rfl
  have e1 := flat_at L hL.2 k _ j hx hj
  have e2 : (vals L.flatten)[k * 128 + j]? = (vals (L.getD k zB))[j]? := by unfold vals; rw [List.getElem?_map, List.getElem?_map, show k * 128 + j = 128 * k + j by omega, e1]
  have h3 : (rowL L)[k * 128 + j]? = some v := by unfold rowL; simpa [e2] using hv
  simp [World.cell?, h, h3]

theorem rowL_there {w : World} {q : Nat} {L : List Bk} {T : TypeId} (h : w.heap[q]? = some (.cells (rowL L) T (0, 0))) (hL : Six L) {k n : Nat} (hk : k < 6) (hn : n = 128) : w.there q (k * 128) n := fun j hj => by
  have hlt : k * 128 + j < (rowL L).size := by rw [rowL_size hL]; omega
  exact ⟨by simp [World.cell?, h, hlt], by simp [World.frozen?, h]⟩

theorem rowL_set {w : World} {q : Nat} {L : List Bk} {T : TypeId} (h : w.heap[q]? = some (.cells (rowL L) T (0, 0))) (hL : Six L) {k : Nat} (hk : k < 6) (x : Bk) (hx : x.length = 128) : (w.setCells q (k * 128) (vals x)).heap[q]? = some (.cells (rowL (L.set k x)) T (0, 0)) := by
  have hfl := flat_len L hL.2
  rw [heap_setCells_same q _ (vals x) (k * 128) w _ h (by rw [rowL_size hL, vals_length, hx]; omega)]
  congr 3
  unfold rowL
  show _ = vals (L.set k x).flatten
  rw [flat_set L hL.2 k x (by rw [hL.1]; exact hk) hx]
  unfold vals
  simp only [List.map_append, List.map_take, List.map_drop, List.length_map, hx]
  rw [show k * 128 = 128 * k by omega]

theorem six_set {L : List Bk} (h : Six L) (k : Nat) {x : Bk} (hx : x.length = 128) : Six (L.set k x) :=
  ⟨by rw [List.length_set]; exact h.1, fun y hy => by
    rcases List.mem_or_eq_of_mem_set hy with e | e
    · exact h.2 y e
    · rw [e]; exact hx⟩

def mixL (j : Nat) (A B : List Bk) : List Bk := A.take j ++ B.drop j

theorem mix_0 (A B : List Bk) : mixL 0 A B = B := by simp [mixL]

theorem mix_6 {A B : List Bk} (hA : Six A) (hB : Six B) : mixL 6 A B = A := by
  unfold mixL
  rw [List.take_of_length_le (by rw [hA.1]; omega), List.drop_eq_nil_of_le (by rw [hB.1]; omega), List.append_nil]

theorem mix_six {A B : List Bk} (hA : Six A) (hB : Six B) {j : Nat} (hj : j ≤ 6) : Six (mixL j A B) := by
  refine ⟨?_, fun x hx => ?_⟩
  · unfold mixL; rw [List.length_append, List.length_take, List.length_drop, hA.1, hB.1]; omega
  · unfold mixL at hx
    rcases List.mem_append.1 hx with e | e
    · exact hA.2 x (List.mem_of_mem_take e)
    · exact hB.2 x (List.mem_of_mem_drop e)

theorem mix_at {A B : List Bk} (hA : Six A) (hB : Six B) {j : Nat} (hj : j < 6) : (mixL j A B).getD j zB = B.getD j zB := by
  unfold mixL
  simp only [List.getD_eq_getElem?_getD]
  rw [List.getElem?_append_right (by rw [List.length_take, hA.1]; omega), List.length_take, hA.1, show j - min j 6 = 0 by omega, List.getElem?_drop]
  simp

theorem mix_set {A B : List Bk} (hA : Six A) (hB : Six B) {j : Nat} (hj : j < 6) : (mixL j A B).set j (A.getD j zB) = mixL (j + 1) A B := by
  unfold mixL
  have e : A[j]? = some (A.getD j zB) := by rw [List.getD_eq_getElem?_getD, List.getElem?_eq_getElem (by rw [hA.1]; exact hj)]; rfl
  rw [List.set_append_right _ _ (by rw [List.length_take, hA.1]; omega), List.length_take, hA.1, show j - min j 6 = 0 by omega, List.take_add_one, e, List.drop_eq_getElem_cons (by rw [hB.1]; exact hj), List.set_cons_zero]
  simp

/-- numbers that a device holds behind i steps -/
def Nums (s : Dst) (i : Nat) : Prop := 0 ≤ s.steps ∧ s.steps ≤ i ∧ -9223372036854775808 ≤ s.fuse ∧ s.fuse < 9223372036854775808

theorem Nums.fine {s : Dst} {i : Nat} (h : Nums s i) (hi : i ≤ 60) : Fine s := ⟨h.1, by have := h.2.1; omega, h.2.2.1, h.2.2.2⟩

theorem Nums.up {s : Dst} {i : Nat} (h : Nums s i) : Nums s (i + 1) := ⟨h.1, by have := h.2.1; omega, h.2.2⟩

theorem Nums.step {s : Dst} {i : Nat} (h : Nums s i) : Nums (stepS s) (i + 1) := by
  obtain ⟨h1, h2, h3, h4⟩ := h
  unfold stepS
  split
  · exact ⟨h1, by show s.steps ≤ _; omega, h3, h4⟩
  · refine ⟨by show 0 ≤ s.steps + 1; omega, by show s.steps + 1 ≤ _; omega, ?_, ?_⟩
    · show _ ≤ (if 0 < s.fuse then s.fuse - 1 else s.fuse); split <;> omega
    · show (if 0 < s.fuse then s.fuse - 1 else s.fuse) < _; split <;> omega

theorem Nums.write {s : Dst} {i : Nat} (h : Nums s i) (k : Int) (x : Bk) : Nums (writeS s k x) (i + 1) := by
  unfold writeS
  split
  · exact h.up
  · split
    · exact h.step
    · exact h.step

theorem Nums.sync {s : Dst} {i : Nat} (h : Nums s i) : Nums (syncS s) (i + 1) := by
  unfold syncS
  split
  · exact h.up
  · split
    · exact h.step
    · exact h.step

theorem Nums.crash {s : Dst} {i : Nat} (h : Nums s i) (K : List Int) : Nums (crashS s K) (i + 1) := ⟨h.1, by have := h.2.1; show s.steps ≤ _; omega, by show (-9223372036854775808 : Int) ≤ -1; omega, by show (-1 : Int) < _; omega⟩

theorem Nums.fuse {s : Dst} {i : Nat} (h : Nums s i) (k : Int) (hk : (Lit.int .i64 k).wf = true) : Nums (if s.down then s else { s with fuse := k }) (i + 1) := by
  simp [Lit.wf, IntKind.min, IntKind.max, IntKind.bits, IntKind.signed] at hk
  split
  · exact h.up
  · exact ⟨h.1, by have := h.2.1; show s.steps ≤ _; omega, by show (-9223372036854775808 : Int) ≤ k; omega, by show k < _; omega⟩

theorem write_same {s : Dst} {k : Int} {x : Bk} (h : eWrite s k ≠ 0) : (writeS s k x).M = s.M ∧ (writeS s k x).L = s.L ∧ (writeS s k x).n = s.n := by
  unfold writeS
  unfold eWrite at h
  split
  · exact ⟨rfl, rfl, rfl⟩
  · rename_i h1
    rw [if_neg h1] at h
    rw [if_pos h]
    exact ⟨step_M s, step_L s, step_n s⟩

theorem write_done {s : Dst} {k : Int} {x : Bk} (h : eWrite s k = 0) : (writeS s k x).M = putM k x s.M ∧ (writeS s k x).L = s.L ∧ (writeS s k x).n = s.n := by
  unfold writeS
  unfold eWrite at h
  split
  · rename_i h1
    rw [if_pos h1] at h
    exact absurd h h1
  · rename_i h1
    rw [if_neg h1] at h
    rw [if_neg (by simpa using h)]
    exact ⟨rfl, step_L s, step_n s⟩

theorem sync_same {s : Dst} (h : eSync s ≠ 0) : (syncS s).M = s.M ∧ (syncS s).L = s.L ∧ (syncS s).n = s.n := by
  unfold syncS
  unfold eSync at h
  split
  · exact ⟨rfl, rfl, rfl⟩
  · rename_i h1
    rw [if_neg h1] at h
    rw [if_pos h]
    exact ⟨step_M s, step_L s, step_n s⟩

theorem sync_done {s : Dst} (h : eSync s = 0) : (syncS s).M = [] ∧ (syncS s).L = syncL s.M s.L ∧ (syncS s).n = s.n := by
  unfold syncS
  unfold eSync at h
  split
  · rename_i h1
    rw [if_pos h1] at h
    omega
  · rename_i h1
    rw [if_neg h1] at h
    rw [if_neg (by simpa using h)]
    exact ⟨rfl, rfl, step_n s⟩

theorem DAt.six {w : World} {g b m : Nat} {s : Dst} (h : DAt w g b m s) (hn : s.n = 6) : Six s.L := ⟨h.len.trans hn, h.b128⟩

theorem DAt.last {w : World} {g b m : Nat} {s : Dst} (h : DAt w g b m s) (hn : s.n = 6) : Six (syncL s.M s.L) := sync_six (h.six hn) (fun p hp => (h.m128 p hp).1)

/-- blocks of old -/
def Old (w : World) (k : Nat) : Prop := k < w.heap.size

/-- a row beside a device stays -/
theorem row_aw {w w' : World} {g b m q : Nat} {cs : Array Value} {T : TypeId} (h : w.heap[q]? = some (.cells cs T (0, 0))) (ha : Aw (Off g b m) w w') (hq : Off g b m q) : w'.heap[q]? = some (.cells cs T (0, 0)) := (ha.block q hq (lt_heap h)).trans h

end Go.Proofs.Ytjejghfeeonghaa.Dr
