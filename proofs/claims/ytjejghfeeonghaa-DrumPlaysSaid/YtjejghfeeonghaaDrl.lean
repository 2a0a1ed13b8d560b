/- Layer 23: the document's device: lists of entries, plainly and in memory. -/
import Derived.Test.YtjejghfeeonghaaDrh
namespace Go.Proofs.Ytjejghfeeonghaa.Dr
open Go Go.RowKit Go.Maps Go.Proofs.Ytjejghfeeonghaa Go.Proofs.Ytjejghfeeonghaa.Au Go.Proofs.Ytjejghfeeonghaa.Re
set_option linter.unusedVariables false
set_option linter.unusedSimpArgs false

abbrev E1 := Int × Bk

def ent (p : E1) : List Value := .int .i64 p.1 :: vals p.2

def ents (L : List E1) : List Value := (L.map ent).flatten

theorem ent_len {p : E1} (h : p.2.length = 128) : (ent p).length = 129 := by simp [ent, vals_length, h]

theorem ents_snoc (L : List E1) (p : E1) : ents (L ++ [p]) = ents L ++ ent p := by simp [ents]

theorem ents_at : ∀ (L : List E1) (_ : ∀ p ∈ L, p.2.length = 128) (i : Nat) (p : E1) (j : Nat), L[i]? = some p → j < 129 → (ents L)[i * 129 + j]? = (ent p)[j]?
  | [], _, i, p, j, h, _ => by simp at h
  | y :: r, hl, 0, p, j, h, hj => by
    simp at h
    subst h
    unfold ents
    rw [List.map_cons, List.flatten_cons, List.getElem?_append_left (by rw [ent_len (hl y (by simp))]; omega)]
    congr 1
    omega
  | y :: r, hl, i + 1, p, j, h, hj => by
    have ih := ents_at r (fun z hz => hl z (by simp [hz])) i p j (by simpa using h) hj
    unfold ents at ih ⊢
    have hy := ent_len (hl y (by simp))
    rw [List.map_cons, List.flatten_cons, List.getElem?_append_right (by rw [hy]; omega), hy, show (i + 1) * 129 + j - 129 = i * 129 + j by omega]
    exact ih

/-- a list of entries lies, all from block base on -/
def EB (w : World) (base : Nat) (v : Value) (L : List E1) : Prop := w.ownsRow base 64 129 v L.length (ents L)

theorem EB.mono {w : World} {c d : Nat} {v : Value} {L : List E1} (h : EB w c v L) (hd : d ≤ c) : EB w d v L := by
  refine ⟨h.1, ?_⟩
  rcases h.2 with hn | ⟨g, cap, cur, hv, hbg, rest⟩
  · exact .inl hn
  · exact .inr ⟨g, cap, cur, hv, Nat.le_trans hd hbg, rest⟩

/-- kept where its block is -/
theorem EB.on {w w' : World} {c : Nat} {v : Value} {L : List E1} (h : EB w c v L) (hk : ∀ q, q < w.heap.size → (∀ cs t f, w.heap[q]? = some (.cells cs t f) → t = 64) → w'.heap[q]? = w.heap[q]?) : EB w' c v L := by
  refine ⟨h.1, ?_⟩
  rcases h.2 with hn | ⟨g, cap, cur, hv, hbg, hg, rest⟩
  · exact .inl hn
  · exact .inr ⟨g, cap, cur, hv, hbg, (hk g (lt_heap hg) (fun cs t f e => by rw [hg] at e; cases e; rfl)).trans hg, rest⟩

/-- as the walks read it -/
def RL (w : World) (a : Option Addr) (L : List E1) : Prop := L = [] ∨ ∃ g, a = some ⟨g, 0, none⟩ ∧ g < w.heap.size ∧ ∀ (i : Nat) (p : E1), L[i]? = some p → w.rangeAt g (i * 129) (ent p)

theorem EB.open {w : World} {c : Nat} {v : Value} {L : List E1} (h : EB w c v L) (hl : ∀ p ∈ L, p.2.length = 128) : ∃ a k, v = .slice a L.length k ∧ RL w a L := by
  rcases h.2 with ⟨rfl, hn⟩ | ⟨g, cap, cur, rfl, hbg, hg, -⟩
  · exact ⟨none, 0, by rw [hn], .inl (List.length_eq_zero_iff.1 hn)⟩
  · refine ⟨some ⟨g, 0, none⟩, cap, rfl, .inr ⟨g, rfl, lt_heap hg, fun i p hp j u hu => ?_⟩⟩
    have hj : j < 129 := by
      have h1 := (List.getElem?_eq_some_iff.1 hu).1
      rwa [ent_len (hl p (List.mem_of_getElem? hp))] at h1
    have hi : i < L.length := (List.getElem?_eq_some_iff.1 hp).1
    have h2 := h.cellAt (i * 129 + j) (by omega)
    rw [ents_at L hl i p j hp hj, hu] at h2
    exact h2

/-- one step of the document's put -/
def putS (x : E1) (st : List E1 × Bool) (y : E1) : List E1 × Bool :=
  let o1 := if x.1 ≤ y.1 ∧ st.2 = false then st.1 ++ [x] else st.1
  (if y.1 = x.1 then o1 else o1 ++ [y], st.2 || decide (x.1 ≤ y.1))

def putK (x : E1) (L : List E1) (k : Nat) : List E1 × Bool := (L.take k).foldl (putS x) ([], false)

theorem putK_succ (x : E1) (L : List E1) (k : Nat) (y : E1) (h : L[k]? = some y) : putK x L (k + 1) = putS x (putK x L k) y := by
  unfold putK
  rw [List.take_add_one, h, List.foldl_append]
  rfl

theorem put_rest (x : E1) : ∀ (L o : List E1), L.foldl (putS x) (o, true) = (o ++ L.filter (fun p => !decide (p.1 = x.1)), true)
  | [], o => by simp
  | y :: r, o => by
    rw [List.foldl_cons]
    by_cases h : y.1 = x.1
    · rw [show putS x (o, true) y = (o, true) by simp [putS, h], put_rest x r o]
      simp [h]
    · rw [show putS x (o, true) y = (o ++ [y], true) by simp [putS, h], put_rest x r]
      simp [h]

theorem ins_first (x : E1) : ∀ (F : List E1), (∀ p ∈ F, x.1 < p.1) → insM x F = x :: F
  | [], _ => rfl
  | y :: r, h => by simp only [insM]; rw [if_pos (h y (by simp))]

theorem put_all (x : E1) : ∀ (L o : List E1), L.Pairwise (fun p q => p.1 < q.1) → (if (L.foldl (putS x) (o, false)).2 then (L.foldl (putS x) (o, false)).1 else (L.foldl (putS x) (o, false)).1 ++ [x]) = o ++ insM x (L.filter (fun p => !decide (p.1 = x.1)))
  | [], o, _ => by simp [insM]
  | y :: r, o, h => by
    have h' := List.pairwise_cons.1 h
    rw [List.foldl_cons]
    by_cases h1 : x.1 ≤ y.1
    · by_cases h2 : y.1 = x.1
      · rw [show putS x (o, false) y = (o ++ [x], true) by simp [putS, h1, h2], put_rest]
        simp only [if_true]
        rw [List.filter_cons_of_neg (by simp [h2]), ins_first x _ (fun p hp => by have := h'.1 p (List.mem_filter.1 hp).1; omega)]
        simp
      · rw [show putS x (o, false) y = (o ++ [x] ++ [y], true) by simp [putS, h1, h2], put_rest]
        simp only [if_true]
        rw [List.filter_cons_of_pos (by simp [h2]), ins_first x _ (fun p hp => by
          rcases List.mem_cons.1 hp with rfl | hp
          · omega
          · have := h'.1 p (List.mem_filter.1 hp).1; omega)]
        simp
    · have h2 : y.1 ≠ x.1 := by omega
      rw [show putS x (o, false) y = (o ++ [y], false) by simp [putS, h1, h2], put_all x r _ h'.2, List.filter_cons_of_pos (by simp [h2])]
      simp only [insM]
      rw [if_neg (by omega)]
      simp

theorem put_end (x : E1) (L : List E1) (h : L.Pairwise (fun p q => p.1 < q.1)) : (if (putK x L L.length).2 then (putK x L L.length).1 else (putK x L L.length).1 ++ [x]) = putM x.1 x.2 L := by
  unfold putK
  rw [List.take_length]
  have := put_all x L [] h
  rw [List.nil_append] at this
  exact this

theorem putK_len (x : E1) (L : List E1) : ∀ k, k ≤ L.length → (putK x L k).1.length ≤ 2 * k
  | 0, _ => by simp [putK]
  | k + 1, h => by
    have ih := putK_len x L k (by omega)
    rw [putK_succ x L k L[k] (List.getElem?_eq_getElem (by omega))]
    unfold putS
    simp only
    split <;> split <;> simp <;> omega

theorem putK_128 (x : E1) (hx : x.2.length = 128) (L : List E1) (hl : ∀ p ∈ L, p.2.length = 128) : ∀ k, k ≤ L.length → ∀ p ∈ (putK x L k).1, p.2.length = 128
  | 0, _ => by simp [putK]
  | k + 1, h => by
    have ih := putK_128 x hx L hl k (by omega)
    rw [putK_succ x L k L[k] (List.getElem?_eq_getElem (by omega))]
    have hy := hl L[k] (List.getElem_mem _)
    unfold putS
    simp only
    have key : ∀ p, p ∈ (putK x L k).1 ∨ p = x ∨ p = L[k] → p.2.length = 128 := fun p hp => by
      rcases hp with h | rfl | rfl
      · exact ih p h
      · exact hx
      · exact hy
    intro p hp
    refine key p ?_
    split at hp <;> split at hp <;> (try simp only [List.mem_append, List.mem_singleton] at hp) <;> grind

end Go.Proofs.Ytjejghfeeonghaa.Dr
