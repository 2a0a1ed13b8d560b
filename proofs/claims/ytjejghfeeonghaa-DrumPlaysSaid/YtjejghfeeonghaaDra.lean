/- Layer 23 (drum): blocks, loose ones in a map; a device in memory. -/
import Derived.Test.YtjejghfeeonghaaAu
import Derived.Test.YtjejghfeeonghaaRr
import Derived.Test.YtjejghfeeonghaaOl
import Derived.Test.YtjejghfeeonghaaRew
import Derived.Maps.OwnSet
import Derived.Deep.MidRow
import Derived.Deep.Upon
import Derived.Laws.MakeOwn
import Derived.ChangeKeysEq
namespace Go.Proofs.Ytjejghfeeonghaa.Dr
open Go Go.RowKit Go.Maps Go.Proofs.Ytjejghfeeonghaa Go.Proofs.Ytjejghfeeonghaa.Au Go.Proofs.Ytjejghfeeonghaa.Re
set_option linter.unusedVariables false
set_option linter.unusedSimpArgs false

abbrev Bk := List UInt8

abbrev DV := DataW Value

/-- how an element of the map reads: itself -/
def hR (v : Value) : Option (DV × List MemPlace) := some (.held v, [])

/-- a block as a value -/
def bv (b : Bk) : Value := .agg (vals b).toArray

theorem vals_inj {a b : Bk} (h : vals a = vals b) : a = b := by
  have e := congrArg (List.map fun v : Value => match v with | .int _ n => UInt8.ofNat n.toNat | _ => 0) h
  simpa [vals, List.map_map, Function.comp_def] using e

theorem bv_inj {a b : Bk} (h : bv a = bv b) : a = b := by
  unfold bv at h
  simp at h
  exact vals_inj h

/-- a map's entries, as it reads -/
def mf (p : Int × Bk) : Lit × DV := (.int .i64 p.1, .held (bv p.2))

def dm (M : List (Int × Bk)) : DV := .map (M.map mf)

def insM (x : Int × Bk) : List (Int × Bk) → List (Int × Bk)
  | [] => [x]
  | y :: r => if x.1 < y.1 then x :: y :: r else y :: insM x r

def putM (k : Int) (b : Bk) (M : List (Int × Bk)) : List (Int × Bk) := insM (k, b) (M.filter fun p => !decide (p.1 = k))

def findM (M : List (Int × Bk)) (k : Int) : Option Bk := (M.find? fun p => decide (p.1 = k)).map (·.2)

theorem ins_map (x : Int × Bk) : ∀ M : List (Int × Bk), DataW.insert (mf x) (M.map mf) = (insM x M).map mf
  | [] => rfl
  | y :: r => by
    have ih := ins_map x r
    simp only [List.map_cons, DataW.insert, insM]
    by_cases h : x.1 < y.1
    · rw [if_pos h, if_pos (by simpa [mf, Lit.before] using h)]; rfl
    · rw [if_neg h, if_neg (by simpa [mf, Lit.before] using h), ih]; rfl

theorem dm_put (M : List (Int × Bk)) (k : Int) (b : Bk) : (dm M).put (.int .i64 k) (.held (bv b)) = dm (putM k b M) := by
  unfold dm putM
  simp only [DataW.put]
  rw [List.filter_map, ← ins_map]
  congr 2
  congr 1
  refine List.filter_congr fun p _ => ?_
  simp [mf, Lit.sameKey]

theorem find_map (M : List (Int × Bk)) (k : Int) : (M.map mf).find? (fun p => p.1.sameKey (.int .i64 k)) = (M.find? fun p => decide (p.1 = k)).map mf := by
  rw [List.find?_map]
  congr 2
  funext p
  simp [mf, Lit.sameKey]

theorem dm_at (M : List (Int × Bk)) (k : Int) (z : DV) : (dm M).atKey (.int .i64 k) z = match findM M k with | some b => .held (bv b) | none => z := by
  unfold dm findM
  simp only [DataW.atKey]
  rw [find_map]
  cases M.find? fun p => decide (p.1 = k) <;> rfl

theorem dm_has (M : List (Int × Bk)) (k : Int) : Maps.has (dm M) (.int .i64 k) = (findM M k).isSome := by
  unfold dm findM
  rw [Maps.has_eq, Option.isSome_map, Bool.eq_iff_iff, List.find?_isSome, List.any_eq_true]
  constructor
  · rintro ⟨x, hx, h⟩
    obtain ⟨p, hp, rfl⟩ := List.mem_map.1 hx
    exact ⟨p, hp, by simpa [mf, Lit.sameKey] using h⟩
  · rintro ⟨p, hp, h⟩
    exact ⟨mf p, List.mem_map.2 ⟨p, hp, rfl⟩, by simpa [mf, Lit.sameKey] using h⟩

/-- a list of rows of 128, as one row -/
theorem flat_at : ∀ (L : List Bk) (_ : ∀ x ∈ L, x.length = 128) (i : Nat) (x : Bk) (j : Nat), L[i]? = some x → j < 128 → L.flatten[128 * i + j]? = x[j]?
  | [], _, i, x, j, h, _ => by simp at h
  | y :: r, hl, 0, x, j, h, hj => by
    simp at h
    subst h
    rw [List.flatten_cons, List.getElem?_append_left (by rw [hl y (by simp)]; omega)]
    congr 1
    omega
  | y :: r, hl, i + 1, x, j, h, hj => by
    have hy := hl y (by simp)
    rw [List.flatten_cons, List.getElem?_append_right (by rw [hy]; omega), hy, show 128 * (i + 1) + j - 128 = 128 * i + j by omega]
    exact flat_at r (fun z hz => hl z (by simp [hz])) i x j (by simpa using h) hj

theorem flat_len : ∀ (L : List Bk) (_ : ∀ x ∈ L, x.length = 128), L.flatten.length = 128 * L.length
  | [], _ => rfl
  | y :: r, hl => by
    rw [List.flatten_cons, List.length_append, hl y (by simp), flat_len r (fun z hz => hl z (by simp [hz])), List.length_cons]
    omega

theorem flat_set : ∀ (L : List Bk) (_ : ∀ x ∈ L, x.length = 128) (i : Nat) (x : Bk), i < L.length → x.length = 128 → (L.set i x).flatten = L.flatten.take (128 * i) ++ x ++ L.flatten.drop (128 * i + 128)
  | [], _, i, x, h, _ => by simp at h
  | y :: r, hl, 0, x, h, hx => by
    have hy := hl y (by simp)
    rw [List.set_cons_zero, List.flatten_cons, List.flatten_cons, Nat.mul_zero, List.take_zero, List.nil_append, Nat.zero_add, List.drop_append_of_le_length (by omega), List.drop_eq_nil_of_le (by omega), List.nil_append]
  | y :: r, hl, i + 1, x, h, hx => by
    have hy := hl y (by simp)
    have ih := flat_set r (fun z hz => hl z (by simp [hz])) i x (by simpa using h) hx
    rw [List.set_cons_succ, List.flatten_cons, List.flatten_cons, ih, List.take_append, List.drop_append, hy, List.take_of_length_le (l := y) (by omega), (show List.drop (128 * (i + 1) + 128) y = [] from List.drop_eq_nil_of_le (by omega)), show 128 * (i + 1) - 128 = 128 * i by omega, show 128 * (i + 1) + 128 - 128 = 128 * i + 128 by omega]
    simp only [List.append_assoc, List.nil_append]

theorem heap_setCells_same (b : Nat) (t : TypeId) : ∀ (vs : List Value) (o : Nat) (w : World) (cs : Array Value), w.heap[b]? = some (.cells cs t (0, 0)) → o + vs.length ≤ cs.size →
    (w.setCells b o vs).heap[b]? = some (.cells (cs.toList.take o ++ vs ++ cs.toList.drop (o + vs.length)).toArray t (0, 0))
  | [], o, w, cs, h, _ => by
    show w.heap[b]? = _
    rw [h]
    simp
  | v :: r, o, w, cs, h, hl => by
    simp only [List.length_cons] at hl
    rw [World.setCells]
    have h1 := heap_setCell_same w b o cs t v h
    have ih := heap_setCells_same b t r (o + 1) _ (cs.setIfInBounds o v) h1 (by simp; omega)
    rw [ih]
    congr 3
    rw [Array.toList_setIfInBounds, List.take_set, List.drop_set, if_pos (by omega), List.take_succ_eq_append_getElem (by simp; omega), List.set_append]
    simp only [List.length_take, Array.length_toList]
    rw [if_neg (by omega), show o - min o cs.size = 0 by omega]
    simp only [List.set_cons_zero, List.append_assoc, List.cons_append, List.nil_append, List.length_cons]
    rw [show o + 1 + r.length = o + (r.length + 1) by omega]

/-- a device -/
structure Dst where
  n : Nat
  steps : Int
  fuse : Int
  down : Bool
  L : List Bk
  M : List (Int × Bk)

abbrev keyL : Keyed Try.prog 3 := int_keyed Try.underlying3

/-- a device in block g, what lasts in block b, what is loose in the map m -/
structure DAt (w : World) (g b m : Nat) (s : Dst) : Prop where
  dev : w.heap[g]? = some (.cells #[.int .i64 s.n, .int .i64 s.steps, .int .i64 s.fuse, .bool s.down, .slice (some ⟨b, 0, none⟩) s.n s.n, .map (some m)] 57 (0, 0))
  las : w.heap[b]? = some (.cells (vals s.L.flatten).toArray 36 (0, 0))
  loose : w.ownsMap Try.prog 3 hR m 9000 (dm s.M)
  len : s.L.length = s.n
  n0 : 1 ≤ s.n ∧ s.n ≤ 8192
  b128 : ∀ x ∈ s.L, x.length = 128
  m128 : ∀ p ∈ s.M, p.2.length = 128 ∧ 0 ≤ p.1 ∧ p.1 < s.n
  up : s.M.Pairwise fun p q => p.1 < q.1
  mlen : s.M.length ≤ s.n

/-- blocks that aren't a device's -/
def Off (g b m : Nat) (k : Nat) : Prop := k ≠ g ∧ k ≠ b ∧ k ≠ m

theorem DAt.lt {w : World} {g b m : Nat} {s : Dst} (h : DAt w g b m s) : g < w.heap.size ∧ b < w.heap.size ∧ m < w.heap.size := by
  obtain ⟨es, clock, hm, -⟩ := h.loose
  exact ⟨lt_heap h.dev, lt_heap h.las, lt_heap hm⟩

theorem DAt.ne {w : World} {g b m : Nat} {s : Dst} (h : DAt w g b m s) : g ≠ b ∧ g ≠ m ∧ b ≠ m := by
  obtain ⟨es, clock, hm, -⟩ := h.loose
  refine ⟨fun e => ?_, fun e => ?_, fun e => ?_⟩
  · subst e
    have h1 := h.dev
    rw [h.las] at h1
    simp at h1
  · subst e
    have h1 := h.dev
    rw [hm] at h1
    simp at h1
  · subst e
    have h1 := h.las
    rw [hm] at h1
    simp at h1

theorem map_keep {w w' : World} {m N : Nat} {D : DV} (h : w.ownsMap Try.prog 3 hR m N D) (hk : w'.heap[m]? = w.heap[m]?) : w'.ownsMap Try.prog 3 hR m N D := by
  obtain ⟨es, clock, hm, h1, h2, h3⟩ := h
  exact ⟨es, clock, hk.trans hm, h1, h2, h3⟩

theorem DAt.keep {w w' : World} {g b m : Nat} {s : Dst} (h : DAt w g b m s) (hg : w'.heap[g]? = w.heap[g]?) (hb : w'.heap[b]? = w.heap[b]?) (hm : w'.heap[m]? = w.heap[m]?) : DAt w' g b m s :=
  ⟨hg.trans h.dev, hb.trans h.las, map_keep h.loose hm, h.len, h.n0, h.b128, h.m128, h.up, h.mlen⟩

theorem DAt.on {w w' : World} {g b m : Nat} {s : Dst} (h : DAt w g b m s) (hb : Below w.heap.size w w') : DAt w' g b m s :=
  h.keep (hb.block _ h.lt.1) (hb.block _ h.lt.2.1) (hb.block _ h.lt.2.2)

/-- one more in the map: it has no more entries than the device has blocks -/
theorem own_tight {w : World} {m N : Nat} {M : List (Int × Bk)} (h : w.ownsMap Try.prog 3 hR m N (dm M)) (hl : M.length ≤ 8192) : w.ownsMap Try.prog 3 hR m 9000 (dm M) := by
  obtain ⟨es, clock, hm, h1, h2, h3⟩ := h
  refine ⟨es, clock, hm, h1, ?_, h3⟩
  have e : Maps.size (dm M) = es.size := by rw [h3, Maps.size_eq, length_sorted]; simp
  have e2 : Maps.size (dm M) = M.length := by unfold dm; rw [Maps.size_eq]; simp
  omega

theorem ins_mem (x : Int × Bk) : ∀ (M : List (Int × Bk)) (p : Int × Bk), p ∈ insM x M ↔ p = x ∨ p ∈ M
  | [], p => by simp [insM]
  | y :: r, p => by
    simp only [insM]
    split
    · simp
    · simp only [List.mem_cons, ins_mem x r p]
      constructor
      · rintro (h | h | h) <;> simp [h]
      · rintro (h | h | h) <;> simp [h]

theorem ins_up (x : Int × Bk) : ∀ (M : List (Int × Bk)), M.Pairwise (fun p q => p.1 < q.1) → (∀ p ∈ M, p.1 ≠ x.1) → (insM x M).Pairwise fun p q => p.1 < q.1
  | [], _, _ => by simp [insM]
  | y :: r, h, hx => by
    have h' := List.pairwise_cons.1 h
    simp only [insM]
    split
    · rename_i hlt
      refine List.pairwise_cons.2 ⟨fun p hp => ?_, h⟩
      rcases List.mem_cons.1 hp with rfl | hp
      · exact hlt
      · have := h'.1 p hp; omega
    · rename_i hge
      refine List.pairwise_cons.2 ⟨fun p hp => ?_, ins_up x r h'.2 (fun p hp => hx p (by simp [hp]))⟩
      rcases (ins_mem x r p).1 hp with rfl | hp
      · have := hx y (by simp); omega
      · exact h'.1 p hp

theorem put_up {M : List (Int × Bk)} (h : M.Pairwise fun p q => p.1 < q.1) (k : Int) (b : Bk) : (putM k b M).Pairwise fun p q => p.1 < q.1 :=
  ins_up _ _ (h.filter _) (fun p hp => by simpa using (List.mem_filter.1 hp).2)

theorem put_mem {M : List (Int × Bk)} {k : Int} {b : Bk} {p : Int × Bk} (h : p ∈ putM k b M) : p = (k, b) ∨ p ∈ M := by
  rcases (ins_mem _ _ p).1 h with h | h
  · exact .inl h
  · exact .inr (List.mem_filter.1 h).1

/-- numbers that rise, from a on and below c, are no more than c - a -/
theorem rise_len : ∀ (M : List (Int × Bk)) (a c : Int), M.Pairwise (fun p q => p.1 < q.1) → (∀ p ∈ M, a ≤ p.1 ∧ p.1 < c) → (M.length : Int) ≤ c - a ∨ M = []
  | [], _, _, _, _ => .inr rfl
  | y :: r, a, c, h, hb => by
    have h' := List.pairwise_cons.1 h
    have hy := hb y (by simp)
    left
    rcases rise_len r (y.1 + 1) c h'.2 (fun p hp => ⟨by have := h'.1 p hp; omega, (hb p (by simp [hp])).2⟩) with e | e
    · simp only [List.length_cons]; push_cast; omega
    · subst e; simp; omega

theorem find_mem {M : List (Int × Bk)} {k : Int} {b : Bk} (h : findM M k = some b) : (k, b) ∈ M := by
  unfold findM at h
  cases hf : M.find? fun p => decide (p.1 = k) with
  | none => rw [hf] at h; cases h
  | some p =>
    rw [hf] at h
    simp at h
    have h1 := List.find?_some hf
    have h2 := List.mem_of_find?_eq_some hf
    simp at h1
    subst h
    obtain ⟨x, y⟩ := p
    simp at h1
    subst h1
    exact h2

end Go.Proofs.Ytjejghfeeonghaa.Dr
