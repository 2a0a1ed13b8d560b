/- Plans plainly: how many steps need one another in a row; all that lies under a step. -/
import Derived.Test.YtndpidmbfdpiaaaDoorPnb
namespace Go.Proofs.YtndpidmbfdpiaaaDoor.Pn
set_option linter.unusedVariables false

theorem getD_lt {l : List Int} {q : Nat} (h : q < l.length) : l.getD q 0 = l[q] := by simp [List.getD, h]
/-- The greatest of the first k, from nothing on. -/
def mxk (f : Int → Int) (l : List Int) : Nat → Int
  | 0 => 0
  | k + 1 => max (mxk f l k) (f (l.getD k 0))
theorem mxk_congr {f g : Int → Int} {l : List Int} : ∀ k, (∀ i, i < k → f (l.getD i 0) = g (l.getD i 0)) → mxk f l k = mxk g l k
  | 0, _ => rfl
  | k + 1, h => by
    unfold mxk
    rw [mxk_congr k fun i hi => h i (by omega), h k (by omega)]
theorem mxk_le {f : Int → Int} {l : List Int} {B : Int} (hB : 0 ≤ B) : ∀ k, (∀ i, i < k → f (l.getD i 0) ≤ B) → mxk f l k ≤ B
  | 0, _ => hB
  | k + 1, h => by
    have h1 := mxk_le hB k fun i hi => h i (by omega)
    have h2 := h k (by omega)
    unfold mxk
    omega
theorem mxk_nn (f : Int → Int) (l : List Int) : ∀ k, 0 ≤ mxk f l k
  | 0 => Int.le_refl _
  | k + 1 => by have := mxk_nn f l k; unfold mxk; omega
theorem mxk_ge {f : Int → Int} {l : List Int} : ∀ {k i : Nat}, i < k → f (l.getD i 0) ≤ mxk f l k
  | 0, _, h => absurd h (Nat.not_lt_zero _)
  | k + 1, i, h => by
    unfold mxk
    by_cases e : i = k
    · subst e; omega
    · have := mxk_ge (f := f) (l := l) (k := k) (i := i) (by omega); omega

def dep (L : List (List Int)) : Nat → Int → Int
  | 0, _ => 0
  | f + 1, n => mxk (dep L f) (L[n.toNat]!) (L[n.toNat]!).length + 1
def dp (L : List (List Int)) (n : Int) : Int := dep L L.length n
theorem dep_bd (L : List (List Int)) : ∀ f n, 0 ≤ dep L f n ∧ dep L f n ≤ f
  | 0, n => by simp [dep]
  | f + 1, n => by
    unfold dep
    have h1 := mxk_nn (dep L f) (L[n.toNat]!) (L[n.toNat]!).length
    have h2 := mxk_le (f := dep L f) (l := L[n.toNat]!) (B := f) (by omega) (L[n.toNat]!).length fun i _ => (dep_bd L f _).2
    omega
/-- An order of all: each once, each behind what it needs. -/
structure Whole (L : List (List Int)) (l : List Int) : Prop where
  ok : Ok L l
  len : l.length = L.length
  bef : ∀ i, (h : i < l.length) → ∀ m ∈ L[(l[i]).toNat]!, m ∈ l.take i
theorem whole_ord {L : List (List Int)} (h : (ord L L.length).length = L.length) : Whole L (ord L L.length) := ⟨ok_ord L _, h, ord_before L _⟩
theorem Whole.need {L : List (List Int)} {l : List Int} (h : Whole L l) {i q : Nat} (hi : i < l.length) (hq : q < (L[(l.getD i 0).toNat]!).length) : ∃ j, j < i ∧ (L[(l.getD i 0).toNat]!).getD q 0 = l.getD j 0 := by
  have e : l.getD i 0 = l[i] := by simp [List.getD, hi]
  rw [e] at hq ⊢
  have hm := h.bef i hi ((L[(l[i]).toNat]!).getD q 0) (by simp only [List.getD, List.getElem?_eq_getElem hq, Option.getD_some]; exact List.getElem_mem hq)
  obtain ⟨j, hj, e2⟩ := List.mem_iff_getElem.1 hm
  rw [List.length_take] at hj
  rw [List.getElem_take] at e2
  exact ⟨j, by omega, by rw [← e2]; simp [List.getD, show j < l.length by omega]⟩
theorem dep_more {L : List (List Int)} {l : List Int} (h : Whole L l) : ∀ f i, i < f → i < l.length → dep L (f + 1) (l.getD i 0) = dep L f (l.getD i 0)
  | 0, i, h0, _ => absurd h0 (Nat.not_lt_zero _)
  | f + 1, i, hf, hi => by
    show mxk (dep L (f + 1)) (L[(l.getD i 0).toNat]!) _ + 1 = mxk (dep L f) (L[(l.getD i 0).toNat]!) _ + 1
    rw [mxk_congr]
    intro q hq
    obtain ⟨j, hj, e⟩ := h.need hi hq
    rw [e]
    exact dep_more h f j (by omega) (by omega)
theorem dep_same {L : List (List Int)} {l : List Int} (h : Whole L l) {f i : Nat} (hi : i < l.length) (hf : i < f) : ∀ k, dep L (f + k) (l.getD i 0) = dep L f (l.getD i 0)
  | 0 => rfl
  | k + 1 => (dep_more h (f + k) i (by omega) hi).trans (dep_same h hi hf k)
/-- How deep a step of an order lies. -/
theorem dp_eq {L : List (List Int)} {l : List Int} (h : Whole L l) {i : Nat} (hi : i < l.length) : dp L (l.getD i 0) = mxk (dp L) (L[(l.getD i 0).toNat]!) (L[(l.getD i 0).toNat]!).length + 1 := by
  have hl := h.len
  have e : dp L (l.getD i 0) = dep L (L.length + 1) (l.getD i 0) := (dep_same h hi (f := L.length) (by omega) 1).symm
  rw [e]
  rfl
theorem dp_bd (L : List (List Int)) (n : Int) : 0 ≤ dp L n ∧ dp L n ≤ L.length := dep_bd L _ n
/-- The numbers from 0 on. -/
def upto (n : Nat) : List Int := (List.range n).map fun i : Nat => (i : Int)
theorem upto_get {n i : Nat} (h : i < n) : (upto n).getD i 0 = (i : Int) := by simp [upto, List.getD, h]
/-- The greatest over all, whichever way round. -/
theorem mx_all {L : List (List Int)} {l : List Int} (h : Whole L l) (f : Int → Int) : mxk f l l.length = mxk f (upto L.length) L.length := by
  apply Int.le_antisymm
  · refine mxk_le (mxk_nn _ _ _) _ fun i hi => ?_
    have := h.ok.2 l[i] (List.getElem_mem hi)
    have e : l.getD i 0 = ((l[i]).toNat : Int) := by simp [List.getD, hi]; omega
    have h2 := mxk_ge (f := f) (l := upto L.length) (k := L.length) (i := (l[i]).toNat) (by omega)
    rw [upto_get (by omega)] at h2
    rw [e]
    exact h2
  · refine mxk_le (mxk_nn _ _ _) _ fun n hn => ?_
    rw [upto_get hn]
    obtain ⟨i, hi, e⟩ := stands h.ok h.len n hn
    rw [← e]
    exact mxk_ge hi
/-- The rows of the program: how deep those lie that were gone through. -/
def rws (L : List (List Int)) (l : List Int) (k : Nat) : List Int := (List.range L.length).map fun m : Nat => if has (l.take k) (m : Int) then dp L (m : Int) else 0
theorem rws_zero (L : List (List Int)) (l : List Int) : rws L l 0 = List.replicate L.length 0 := by
  apply List.ext_getElem <;> simp [rws, has_nil]
theorem rws_len (L : List (List Int)) (l : List Int) (k : Nat) : (rws L l k).length = L.length := by simp [rws]
theorem rws_get {L : List (List Int)} {l : List Int} {k m : Nat} (h : m < L.length) : (rws L l k).getD m 0 = if has (l.take k) (m : Int) then dp L (m : Int) else 0 := by
  simp [rws, List.getD, h]
theorem rws_set {L : List (List Int)} {l : List Int} {k n : Nat} (hk : k < l.length) (hn : n < L.length) (he : l.getD k 0 = (n : Int)) : (rws L l k).set n (dp L (n : Int)) = rws L l (k + 1) := by
  have et : l.take (k + 1) = l.take k ++ [(n : Int)] := by
    rw [List.take_succ_eq_append_getElem hk]
    have : l[k] = (n : Int) := by simpa [List.getD, hk] using he
    rw [this]
  apply List.ext_getElem
  · simp [rws]
  · intro i h1 h2
    rw [List.getElem_set]
    simp only [rws, List.getElem_map, List.getElem_range, et, has_append]
    by_cases e : n = i
    · subst e; simp
    · have : ((n : Int) == (i : Int)) = false := by simpa using (by omega : (n : Int) ≠ (i : Int))
      rw [if_neg e, this, Bool.or_false]

/-- What lies under a step: found going down, each once. -/
def sk (g : Int → List Int → List Int) (needs l : List Int) : Nat → List Int
  | 0 => l
  | k + 1 => if has (sk g needs l k) (needs.getD k 0) then sk g needs l k else g (needs.getD k 0) (sk g needs l k ++ [needs.getD k 0])
def seek (L : List (List Int)) : Nat → Int → List Int → List Int
  | 0, _, l => l
  | f + 1, n, l => sk (seek L f) (L[n.toNat]!) l (L[n.toNat]!).length
inductive Reach (L : List (List Int)) : Nat → Int → Int → Prop
  | one {n m : Int} (h : m ∈ L[n.toNat]!) : Reach L 1 n m
  | more {k : Nat} {n m x : Int} (h : m ∈ L[n.toNat]!) (r : Reach L k m x) : Reach L (k + 1) n x
/-- What going down from n, having found l, comes to. -/
structure Down (L : List (List Int)) (n : Int) (needs l l' : List Int) : Prop where
  ok : Ok L l'
  ex : ∃ t, l' = l ++ t ∧ ∀ x ∈ t, (∀ m ∈ L[x.toNat]!, m ∈ l') ∧ ∃ k, Reach L k n x
  all : ∀ m ∈ needs, m ∈ l'
theorem sk_down {L : List (List Int)} (hF : Fits L) {n : Int} {g : Int → List Int → List Int} {l : List Int} (hl : Ok L l) (hn : 0 ≤ n ∧ n < (L.length : Int)) (hg : ∀ q, q < (L[n.toNat]!).length → ∀ l, Ok L l → Down L ((L[n.toNat]!).getD q 0) (L[((L[n.toNat]!).getD q 0).toNat]!) l (g ((L[n.toNat]!).getD q 0) l)) :
    ∀ k, k ≤ (L[n.toNat]!).length → Down L n ((L[n.toNat]!).take k) l (sk g (L[n.toNat]!) l k)
  | 0, _ => ⟨hl, ⟨[], by simp [sk], fun _ h => by cases h⟩, fun _ h => by simp at h⟩
  | k + 1, hk => by
    have ih := sk_down hF hl hn hg k (by omega)
    have em : (L[n.toNat]!).getD k 0 = (L[n.toNat]!)[k] := by simp only [List.getD, List.getElem?_eq_getElem (show k < (L[n.toNat]!).length by omega), Option.getD_some]
    have hmem : (L[n.toNat]!).getD k 0 ∈ L[n.toNat]! := by rw [em]; exact List.getElem_mem _
    have et : (L[n.toNat]!).take (k + 1) = (L[n.toNat]!).take k ++ [(L[n.toNat]!).getD k 0] := by rw [List.take_succ_eq_append_getElem (by omega), em]
    have hg' := hg k (by omega)
    have hr := hF n.toNat (by omega) _ hmem
    generalize hm : (L[n.toNat]!).getD k 0 = m at hmem et hg' hr ⊢
    unfold sk
    rw [hm]
    cases hh : has (sk g (L[n.toNat]!) l k) m with
    | true =>
      rw [if_pos rfl]
      refine ⟨ih.ok, ih.ex, fun x hx => ?_⟩
      rw [et] at hx
      rcases List.mem_append.1 hx with hx | hx
      · exact ih.all x hx
      · rw [List.mem_singleton] at hx; subst hx; exact has_iff.1 hh
    | false =>
      rw [if_neg (by decide)]
      have h1 : Ok L (sk g (L[n.toNat]!) l k ++ [m]) := by
        have := ok_add ih.ok (n := m.toNat) (by omega) (by rw [show ((m.toNat : Nat) : Int) = m by omega]; exact hh)
        rwa [show ((m.toNat : Nat) : Int) = m by omega] at this
      have d := hg' _ h1
      obtain ⟨t, ht, hT⟩ := d.ex
      obtain ⟨s, hs, hS⟩ := ih.ex
      have hin : ∀ x ∈ sk g (L[n.toNat]!) l k, x ∈ g m (sk g (L[n.toNat]!) l k ++ [m]) := by intro x hx; rw [ht]; exact List.mem_append_left _ (List.mem_append_left _ hx)
      refine ⟨d.ok, ⟨s ++ [m] ++ t, ?_, ?_⟩, ?_⟩
      · rw [ht, hs]; simp
      · intro x hx
        rcases List.mem_append.1 hx with hx | hx
        · rcases List.mem_append.1 hx with hx | hx
          · exact ⟨fun y hy => hin y ((hS x hx).1 y hy), (hS x hx).2⟩
          · rw [List.mem_singleton] at hx; subst hx
            exact ⟨fun y hy => d.all y hy, 1, .one hmem⟩
        · obtain ⟨h2, j, hj⟩ := hT x hx
          exact ⟨h2, j + 1, .more hmem hj⟩
      · intro x hx
        rw [et] at hx
        rcases List.mem_append.1 hx with hx | hx
        · exact hin x (ih.all x hx)
        · rw [List.mem_singleton] at hx; subst hx; rw [ht]; simp
theorem seek_down {L : List (List Int)} {o : List Int} (hF : Fits L) (hw : Whole L o) : ∀ f i, i < f → i < o.length → ∀ l, Ok L l → Down L (o.getD i 0) (L[(o.getD i 0).toNat]!) l (seek L f (o.getD i 0) l)
  | 0, i, h, _ => absurd h (Nat.not_lt_zero _)
  | f + 1, i, hf, hi => by
    intro l hl
    have hr := hw.ok.2 (o.getD i 0) (by simp only [List.getD, List.getElem?_eq_getElem hi, Option.getD_some]; exact List.getElem_mem hi)
    have h := sk_down hF (g := seek L f) hl hr (fun q hq l hl => by
      obtain ⟨j, hj, e⟩ := hw.need hi hq
      rw [e]
      exact seek_down hF hw f j (by omega) (by omega) l hl) _ (Nat.le_refl _)
    rw [List.take_length] at h
    exact h
theorem reach_pos {L : List (List Int)} {o : List Int} (hw : Whole L o) : ∀ {k : Nat} {n x : Int}, Reach L k n x → ∀ i, i < o.length → o.getD i 0 = n → k ≤ i
  | _, n, x, .one h, i, hi, e => by
    subst e
    obtain ⟨q, hq, _⟩ := List.mem_iff_getElem.1 h
    obtain ⟨j, hj, _⟩ := hw.need hi hq
    omega
  | _, n, x, .more (k := k) (m := m) h r, i, hi, e => by
    subst e
    obtain ⟨q, hq, e2⟩ := List.mem_iff_getElem.1 h
    obtain ⟨j, hj, e3⟩ := hw.need hi hq
    have := reach_pos hw r j (by omega) (by rw [← e3, ← e2]; exact getD_lt hq)
    omega

/-- The document's way: round by round. -/
def rk (L : List (List Int)) (out : List Int) : Nat → List Int
  | 0 => out
  | k + 1 => if has (rk L out k) (k : Int) then rk L out k ++ L[k]! else rk L out k
def rr (L : List (List Int)) (out : List Int) : Nat → List Int
  | 0 => out
  | r + 1 => rk L (rr L out r) L.length
theorem rk_sub (L : List (List Int)) (out : List Int) : ∀ k, ∀ x ∈ out, x ∈ rk L out k
  | 0, x, h => h
  | k + 1, x, h => by
    unfold rk
    split
    · exact List.mem_append_left _ (rk_sub L out k x h)
    · exact rk_sub L out k x h
theorem rk_le {L : List (List Int)} {out : List Int} {k : Nat} : ∀ j, ∀ x ∈ rk L out k, x ∈ rk L out (k + j)
  | 0, x, h => h
  | j + 1, x, h => by
    show x ∈ rk L out (k + j + 1)
    have := rk_le j x h
    unfold rk
    split
    · exact List.mem_append_left _ this
    · exact this
theorem rk_need {L : List (List Int)} {out : List Int} {m : Nat} (hm : (m : Int) ∈ out) (hL : m < L.length) : ∀ x ∈ L[m]!, x ∈ rk L out L.length := by
  intro x hx
  have h1 : x ∈ rk L out (m + 1) := by
    unfold rk
    rw [if_pos (has_iff.2 (rk_sub L out m _ hm))]
    exact List.mem_append_right _ hx
  have := rk_le (L.length - (m + 1)) x h1
  rwa [show m + 1 + (L.length - (m + 1)) = L.length by omega] at this
theorem rr_sub (L : List (List Int)) (out : List Int) (r : Nat) : ∀ x ∈ rr L out r, x ∈ rr L out (r + 1) := fun x h => rk_sub L _ _ x h
theorem rr_le {L : List (List Int)} {out : List Int} {r : Nat} : ∀ j, ∀ x ∈ rr L out r, x ∈ rr L out (r + j)
  | 0, x, h => h
  | j + 1, x, h => rr_sub L out (r + j) x (rr_le j x h)
theorem rr_reach {L : List (List Int)} (hF : Fits L) {out : List Int} : ∀ {k : Nat} {m x : Int}, Reach L k m x → 0 ≤ m → m < (L.length : Int) → ∀ r, m ∈ rr L out r → x ∈ rr L out (r + k)
  | _, m, x, .one h, h0, h1, r, hm => by
    have := rk_need (L := L) (out := rr L out r) (m := m.toNat) (by rw [show ((m.toNat : Nat) : Int) = m by omega]; exact hm) (by omega) x h
    exact this
  | _, m, x, .more (k := k) (m := y) h rch, h0, h1, r, hm => by
    have hy := hF m.toNat (by omega) y h
    have h2 := rk_need (L := L) (out := rr L out r) (m := m.toNat) (by rw [show ((m.toNat : Nat) : Int) = m by omega]; exact hm) (by omega) y h
    have := rr_reach hF rch hy.1 hy.2 (r + 1) h2
    rwa [show r + 1 + k = r + (k + 1) by omega] at this
theorem reach_add {L : List (List Int)} {m : Int} : ∀ {k : Nat} {n x : Int}, Reach L k n x → m ∈ L[x.toNat]! → ∃ j, Reach L j n m
  | _, n, x, .one h, hm => ⟨_, .more h (.one hm)⟩
  | _, n, x, .more h r, hm => by obtain ⟨j, hj⟩ := reach_add r hm; exact ⟨_, .more h hj⟩
theorem rk_only {L : List (List Int)} {out : List Int} {n : Int} (h : ∀ x ∈ out, ∃ k, Reach L k n x) : ∀ k, ∀ x ∈ rk L out k, ∃ j, Reach L j n x
  | 0, x, hx => h x hx
  | k + 1, x, hx => by
    unfold rk at hx
    split at hx
    · rename_i hh
      rcases List.mem_append.1 hx with hx | hx
      · exact rk_only h k x hx
      · obtain ⟨j, hj⟩ := rk_only h k (k : Int) (has_iff.1 hh)
        exact reach_add hj (by simpa using hx)
    · exact rk_only h k x hx
theorem rr_only {L : List (List Int)} {out : List Int} {n : Int} (h : ∀ x ∈ out, ∃ k, Reach L k n x) : ∀ r, ∀ x ∈ rr L out r, ∃ j, Reach L j n x
  | 0, x, hx => h x hx
  | r + 1, x, hx => rk_only (rr_only h r) _ x hx
/-- All that lies under a step, rising. -/
def sorted (L : List (List Int)) (out : List Int) (k : Nat) : List Int := ((List.range k).filter fun i : Nat => has out (i : Int)).map fun i : Nat => (i : Int)
theorem sorted_rises (L : List (List Int)) (out : List Int) (k : Nat) : (sorted L out k).Pairwise (· < ·) := by
  unfold sorted
  rw [List.pairwise_map]
  refine (List.Pairwise.filter _ (List.pairwise_lt_range (n := k))).imp fun h => by omega
theorem sorted_mem {L : List (List Int)} {out : List Int} (h : ∀ x ∈ out, 0 ≤ x ∧ x < (L.length : Int)) (x : Int) : x ∈ sorted L out L.length ↔ x ∈ out := by
  unfold sorted
  constructor
  · intro hx
    obtain ⟨i, hi, rfl⟩ := List.mem_map.1 hx
    exact has_iff.1 (List.mem_filter.1 hi).2
  · intro hx
    have := h x hx
    refine List.mem_map.2 ⟨x.toNat, List.mem_filter.2 ⟨by simp; omega, ?_⟩, by omega⟩
    rw [show ((x.toNat : Nat) : Int) = x by omega]
    exact has_iff.2 hx
theorem sort_eq {L : List (List Int)} {out : List Int} (h : Ok L out) : out.mergeSort (fun x y => decide (x ≤ y)) = sorted L out L.length := by
  have h1 : (out.mergeSort fun x y => decide (x ≤ y)).Pairwise fun x y => x ≤ y := by
    have := List.pairwise_mergeSort (le := fun x y : Int => decide (x ≤ y)) (fun a b c => by simp; omega) (fun a b => by simp; omega) out
    exact this.imp fun h => by simpa using h
  have h2 : (sorted L out L.length).Pairwise fun x y => x ≤ y := (sorted_rises L out _).imp fun h => by omega
  have hn : (sorted L out L.length).Nodup := (sorted_rises L out _).imp fun h e => by omega
  have hp : (sorted L out L.length).Perm out := (List.perm_ext_iff_of_nodup hn h.1).2 (sorted_mem h.2)
  exact ((List.mergeSort_perm out _).trans hp.symm).eq_of_pairwise (fun a b _ _ h1 h2 => by omega) h1 h2
/-- Both ways find the same. -/
theorem under_same {L : List (List Int)} {o : List Int} (hF : Fits L) (hw : Whole L o) {i : Nat} (hi : i < o.length) :
    sorted L (seek L L.length (o.getD i 0) []) L.length = sorted L (rr L (L[(o.getD i 0).toNat]!) L.length) L.length := by
  have hr := hw.ok.2 (o.getD i 0) (by simp only [List.getD, List.getElem?_eq_getElem hi, Option.getD_some]; exact List.getElem_mem hi)
  have hlen := hw.len
  have d := seek_down hF hw L.length i (by omega) hi [] (ok_nil L)
  generalize hn : o.getD i 0 = n at *
  obtain ⟨t, ht, hT⟩ := d.ex
  simp only [List.nil_append] at ht
  have hout : ∀ x ∈ L[n.toNat]!, ∃ k, Reach L k n x := fun x hx => ⟨1, .one hx⟩
  have closed : ∀ {k : Nat} {a x : Int}, Reach L k a x → (∀ m ∈ L[a.toNat]!, m ∈ seek L L.length n []) → x ∈ seek L L.length n [] := by
    intro k a x r
    induction r with
    | one h => intro ha; exact ha _ h
    | more h r ih =>
      intro ha
      exact ih (hT _ (by rw [← ht]; exact ha _ h)).1
  have hiff : ∀ x : Int, x ∈ seek L L.length n [] ↔ x ∈ rr L (L[n.toNat]!) L.length := by
    intro x
    constructor
    · intro hx
      rw [ht] at hx
      obtain ⟨k, hk⟩ := (hT x hx).2
      cases hk with
      | one h => exact by simpa using rr_le (L := L) (out := L[n.toNat]!) (r := 0) L.length x h
      | more h r =>
        rename_i k m
        have hm := hF n.toNat (by omega) m h
        have hpos := reach_pos hw (.more h r) i hi hn
        have h1 := rr_reach hF r hm.1 hm.2 0 (out := L[n.toNat]!) h
        have h2 := rr_le (L.length - (0 + k)) x h1
        rwa [show 0 + k + (L.length - (0 + k)) = L.length by omega] at h2
    · intro hx
      obtain ⟨k, hk⟩ := rr_only hout L.length x hx
      exact closed hk d.all
  unfold sorted
  congr 1
  refine List.filter_congr fun j _ => ?_
  cases h1 : has (seek L L.length n []) (j : Int) with
  | true => exact (has_iff.2 ((hiff _).1 (has_iff.1 h1))).symm
  | false =>
    cases h2 : has (rr L (L[n.toNat]!) L.length) (j : Int) with
    | false => rfl
    | true => rw [has_iff.2 ((hiff _).2 (has_iff.1 h2))] at h1; cases h1
end Go.Proofs.YtndpidmbfdpiaaaDoor.Pn
