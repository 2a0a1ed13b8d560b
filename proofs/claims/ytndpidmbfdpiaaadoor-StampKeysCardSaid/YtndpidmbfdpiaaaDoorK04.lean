/- Plans plainly: which steps may be done behind others, the order that comes of it, which rule is broken first. -/
namespace Go.Proofs.YtndpidmbfdpiaaaDoor.Pn
set_option linter.unusedVariables false

/-- Is n in the list? -/
def has (out : List Int) (n : Int) : Bool := out.any (· == n)
theorem has_iff {out : List Int} {n : Int} : has out n = true ↔ n ∈ out := by simp [has]
theorem has_append (out : List Int) (m n : Int) : has (out ++ [m]) n = (has out n || m == n) := by simp [has]
theorem has_nil (n : Int) : has [] n = false := rfl

/-- May the step n be done behind those of 'out'? -/
def may (L : List (List Int)) (out : List Int) (n : Nat) : Bool := !has out n && (L[n]!).all (has out)
def first (L : List (List Int)) (out : List Int) : Option Nat := (List.range L.length).find? (may L out)
def next (L : List (List Int)) (out : List Int) : List Int := match first L out with | some n => out ++ [(n : Int)] | none => out
def ord (L : List (List Int)) : Nat → List Int
  | 0 => []
  | k + 1 => next L (ord L k)

theorem first_some {L : List (List Int)} {out : List Int} {n : Nat} (h : first L out = some n) : n < L.length ∧ may L out n = true := by
  have h1 := List.find?_some h
  have h2 := List.mem_of_find?_eq_some h
  exact ⟨by simpa using h2, h1⟩
theorem first_none {L : List (List Int)} {out : List Int} (h : first L out = none) : ∀ n, n < L.length → may L out n = false := by
  intro n hn
  have := List.find?_eq_none.1 h n (by simpa using hn)
  simpa using this
/-- The first of those from k on, where none ahead of k may. -/
theorem first_at {L : List (List Int)} {out : List Int} {n : Nat} (hn : n < L.length) (hm : may L out n = true) (hl : ∀ j, j < n → may L out j = false) : first L out = some n := by
  unfold first
  rw [List.find?_range_eq_some]
  exact ⟨hm, by simpa using hn, fun j hj => by simp [hl j hj]⟩
theorem first_no {L : List (List Int)} {out : List Int} (hl : ∀ j, j < L.length → may L out j = false) : first L out = none := by
  unfold first
  rw [List.find?_eq_none]
  intro x hx
  rw [hl x (by simpa using hx)]
  decide

/-- Steps that there are, each once. -/
def Ok (L : List (List Int)) (out : List Int) : Prop := out.Nodup ∧ ∀ x ∈ out, 0 ≤ x ∧ x < (L.length : Int)
theorem ok_nil (L : List (List Int)) : Ok L [] := ⟨List.nodup_nil, fun _ h => by cases h⟩
theorem ok_add {L : List (List Int)} {out : List Int} (h : Ok L out) {n : Nat} (hn : n < L.length) (hm : has out n = false) : Ok L (out ++ [(n : Int)]) := by
  refine ⟨?_, ?_⟩
  · rw [List.nodup_append]
    refine ⟨h.1, by simp, ?_⟩
    intro a ha b hb
    rw [List.mem_singleton] at hb
    subst hb
    intro e
    subst e
    rw [has_iff.2 ha] at hm
    cases hm
  · intro x hx
    rcases List.mem_append.1 hx with hx | hx
    · exact h.2 x hx
    · rw [List.mem_singleton] at hx
      subst hx
      omega
theorem may_has {L : List (List Int)} {out : List Int} {n : Nat} (h : may L out n = true) : has out n = false := by
  unfold may at h
  simp only [Bool.and_eq_true, Bool.not_eq_true'] at h
  exact h.1
theorem ok_next {L : List (List Int)} {out : List Int} (h : Ok L out) : Ok L (next L out) := by
  unfold next
  cases hf : first L out with
  | none => exact h
  | some n => exact ok_add h (first_some hf).1 (may_has (first_some hf).2)
theorem ok_ord (L : List (List Int)) (k : Nat) : Ok L (ord L k) := by
  induction k with
  | zero => exact ok_nil L
  | succ k ih => exact ok_next ih
theorem ok_len {L : List (List Int)} {out : List Int} (h : Ok L out) : out.length ≤ L.length := by
  have h1 : (out.map Int.toNat).Nodup := by
    refine List.pairwise_map.2 (h.1.imp_of_mem fun {a b} ha hb e e' => e ?_)
    have := h.2 a ha; have := h.2 b hb
    omega
  have h2 : (out.map Int.toNat) ⊆ List.range L.length := by
    intro x hx
    obtain ⟨a, ha, rfl⟩ := List.mem_map.1 hx
    have := h.2 a ha
    simp
    omega
  have h3 := h1.length_le_of_subset h2
  simpa using h3
theorem ord_stays {L : List (List Int)} {k : Nat} (h : first L (ord L k) = none) (j : Nat) : ord L (k + j) = ord L k := by
  induction j with
  | zero => rfl
  | succ j ih =>
    show next L (ord L (k + j)) = _
    rw [ih]
    unfold next
    rw [h]
theorem ord_end {L : List (List Int)} {k n : Nat} (h : first L (ord L k) = none) (hk : k ≤ n) : ord L n = ord L k := by
  have := ord_stays h (n - k)
  rwa [show k + (n - k) = n by omega] at this
theorem ord_next {L : List (List Int)} {k n : Nat} (h : first L (ord L k) = some n) : ord L (k + 1) = ord L k ++ [(n : Int)] := by
  show next L (ord L k) = _
  unfold next
  rw [h]

/-- Which rule a row breaks first. -/
def row (len : Nat) : List Int → List Int → Int
  | _, [] => 0
  | seen, m :: l => if m < 0 ∨ (len : Int) ≤ m then 1 else if has seen m then 7 else row len (seen ++ [m]) l
def rows (len : Nat) : List (List Int) → Int
  | [] => 0
  | r :: l => if row len [] r = 0 then rows len l else row len [] r
def named (L : List (List Int)) : Int := if 256 < L.length then 8 else rows L.length L
def chk (L : List (List Int)) : Int := if named L = 0 then (if (ord L L.length).length < L.length then 32 else 0) else named L

/-- The steps done, as a list of truths. -/
def db (L : List (List Int)) (out : List Int) : List Bool := (List.range L.length).map fun i : Nat => has out (i : Int)
def hasB (dl : List Bool) (m : Int) : Bool := decide (0 ≤ m) && (decide (m < (dl.length : Int)) && dl.getD m.toNat false)
theorem db_len (L : List (List Int)) (out : List Int) : (db L out).length = L.length := by simp [db]
theorem db_nil (L : List (List Int)) : db L [] = List.replicate L.length false := by
  apply List.ext_getElem <;> simp [db, has_nil]
theorem db_get {L : List (List Int)} {out : List Int} {i : Nat} (h : i < L.length) : (db L out).getD i false = has out (i : Int) := by
  simp [db, List.getD, h]
theorem db_set {L : List (List Int)} {out : List Int} {n : Nat} (h : n < L.length) : (db L out).set n true = db L (out ++ [(n : Int)]) := by
  apply List.ext_getElem
  · simp [db]
  · intro i h1 h2
    rw [List.getElem_set]
    simp only [db, List.getElem_map, List.getElem_range, has_append]
    by_cases e : n = i
    · subst e; simp
    · have : ((n : Int) == (i : Int)) = false := by simpa using (by omega : (n : Int) ≠ (i : Int))
      rw [if_neg e, this, Bool.or_false]
theorem hasB_db {L : List (List Int)} {out : List Int} (h : Ok L out) (m : Int) : hasB (db L out) m = has out m := by
  unfold hasB
  rw [db_len]
  by_cases h0 : 0 ≤ m
  · by_cases h1 : m < (L.length : Int)
    · rw [db_get (by omega), show ((m.toNat : Nat) : Int) = m by omega]
      simp [h0, h1]
    · have : has out m = false := by
        cases hh : has out m with
        | false => rfl
        | true => exact absurd (h.2 m (has_iff.1 hh)).2 h1
      simp [h1, this]
  · have : has out m = false := by
      cases hh : has out m with
      | false => rfl
      | true => exact absurd (h.2 m (has_iff.1 hh)).1 h0
    simp [h0, this]
/-- What is asked of a need. -/
theorem lacks_eq {L : List (List Int)} {out : List Int} (h : Ok L out) (m : Int) : (decide ((L.length : Int) ≤ m) || !has out m) = !has out m := by
  cases hh : has out m with
  | false => simp
  | true =>
    have := (h.2 m (has_iff.1 hh)).2
    simp; omega
theorem may_eq (L : List (List Int)) (out : List Int) (n : Nat) : may L out n = (!has out n && !((L[n]!).any fun m => !has out m)) := by
  unfold may
  rw [List.not_any_eq_all_not]
  simp

/-- The steps that may be done, rising. -/
def ready (L : List (List Int)) (out : List Int) (k : Nat) : List Int := ((List.range k).filter (may L out)).map fun i : Nat => (i : Int)
theorem ready_zero (L : List (List Int)) (out : List Int) : ready L out 0 = [] := rfl
theorem ready_yes {L : List (List Int)} {out : List Int} {k : Nat} (h : may L out k = true) : ready L out (k + 1) = ready L out k ++ [(k : Int)] := by
  simp [ready, List.range_succ, List.filter_append, h]
theorem ready_no {L : List (List Int)} {out : List Int} {k : Nat} (h : may L out k = false) : ready L out (k + 1) = ready L out k := by
  simp [ready, List.range_succ, List.filter_append, h]
theorem ready_mem {L : List (List Int)} {out : List Int} {k : Nat} {x : Int} (h : x ∈ ready L out k) : ∃ n : Nat, x = (n : Int) ∧ n < k ∧ may L out n = true := by
  unfold ready at h
  obtain ⟨n, hn, rfl⟩ := List.mem_map.1 h
  rw [List.mem_filter] at hn
  exact ⟨n, rfl, by simpa using hn.1, hn.2⟩
theorem ready_len (L : List (List Int)) (out : List Int) (k : Nat) : (ready L out k).length ≤ k := by
  have := List.length_filter_le (may L out) (List.range k)
  simpa [ready] using this

/-- In an order that is whole, all that a step needs stands ahead of it. -/
theorem ord_before (L : List (List Int)) (k : Nat) : ∀ i, (h : i < (ord L k).length) → ∀ m ∈ L[((ord L k)[i]).toNat]!, m ∈ (ord L k).take i := by
  induction k with
  | zero => intro i h; exact absurd h (Nat.not_lt_zero _)
  | succ k ih =>
    intro i h
    cases hf : first L (ord L k) with
    | none =>
      have e : ord L (k + 1) = ord L k := by show next L (ord L k) = _; unfold next; rw [hf]
      simp only [e] at h ⊢
      exact ih i h
    | some n =>
      have e := ord_next hf
      simp only [e] at h ⊢
      by_cases hi : i < (ord L k).length
      · intro m hm
        rw [List.getElem_append_left hi] at hm
        rw [List.take_append_of_le_length (by omega)]
        exact ih i hi m hm
      · have hi' : i = (ord L k).length := by simp at h; omega
        subst hi'
        intro m hm
        have hy := (first_some hf).2
        rw [may] at hy
        simp only [Bool.and_eq_true, List.all_eq_true] at hy
        simp only [List.getElem_concat_length, Int.toNat_natCast] at hm
        rw [List.take_left' rfl]
        exact has_iff.1 (hy.2 m hm)
theorem ord_len (L : List (List Int)) (k : Nat) (hk : ∀ i, i < k → first L (ord L i) ≠ none) : (ord L k).length = k := by
  induction k with
  | zero => rfl
  | succ k ih =>
    have h1 := ih (fun i hi => hk i (by omega))
    cases hf : first L (ord L k) with
    | none => exact absurd hf (hk k (by omega))
    | some n => rw [ord_next hf]; simp [h1]
/-- Steps that there are, each once, as many as there are: all. -/
theorem ok_all {L : List (List Int)} {out : List Int} (h : Ok L out) (hl : out.length = L.length) : ∀ n : Nat, n < L.length → has out (n : Int) = true := by
  intro n hn
  cases hh : has out (n : Int) with
  | true => rfl
  | false =>
    have := ok_len (ok_add h hn hh)
    simp at this
    omega
theorem ok_full {L : List (List Int)} {out : List Int} (h : Ok L out) (hl : out.length = L.length) : first L out = none := by
  refine first_no fun j hj => ?_
  unfold may
  rw [ok_all h hl j hj]
  rfl
/-- While not all is done, something may be done; if there is an order of all. -/
theorem ready_some {L : List (List Int)} {l out : List Int} (hl : Ok L l) (hlen : l.length = L.length) (hbef : ∀ i, (h : i < l.length) → ∀ m ∈ L[(l[i]).toNat]!, m ∈ l.take i)
    (ho : Ok L out) (hlt : out.length < L.length) : ready L out L.length ≠ [] := by
  have hex : ∃ i, ∃ h : i < l.length, has out l[i] = false := by
    apply Classical.byContradiction
    intro hno
    have hall : ∀ x ∈ l, x ∈ out := by
      intro x hx
      obtain ⟨i, hi, rfl⟩ := List.mem_iff_getElem.1 hx
      cases hh : has out l[i] with
      | true => exact has_iff.1 hh
      | false => exact absurd ⟨i, hi, hh⟩ hno
    have := hl.1.length_le_of_subset hall
    omega
  have hmin : ∃ i, (∃ h : i < l.length, has out l[i] = false) ∧ ∀ j, j < i → (h : j < l.length) → has out l[j] = true := by
    obtain ⟨i, hi⟩ := hex
    induction i using Nat.strongRecOn with
    | _ i ih =>
      by_cases hj : ∃ j, j < i ∧ ∃ h : j < l.length, has out l[j] = false
      · obtain ⟨j, hji, hj⟩ := hj
        exact ih j hji hj
      · refine ⟨i, hi, fun j hji hjl => ?_⟩
        cases hh : has out l[j] with
        | true => rfl
        | false => exact absurd ⟨j, hji, hjl, hh⟩ hj
  obtain ⟨i, ⟨hi, hn⟩, hb⟩ := hmin
  have hr := hl.2 l[i] (List.getElem_mem hi)
  obtain ⟨n, hn'⟩ : ∃ n : Nat, l[i] = (n : Int) := ⟨(l[i]).toNat, by omega⟩
  have hm : may L out n = true := by
    unfold may
    rw [← hn', hn]
    simp only [Bool.not_false, Bool.true_and, List.all_eq_true]
    intro m hm
    have hm' := hbef i hi m (by rw [hn']; simpa using hm)
    obtain ⟨j, hj, rfl⟩ := List.mem_iff_getElem.1 hm'
    rw [List.getElem_take]
    rw [List.length_take] at hj
    exact hb j (by omega) (by omega)
  intro he
  have : (n : Int) ∈ ready L out L.length := by
    unfold ready
    exact List.mem_map.2 ⟨n, List.mem_filter.2 ⟨by simpa using (by omega : n < L.length), hm⟩, rfl⟩
  rw [he] at this
  cases this

end Go.Proofs.YtndpidmbfdpiaaaDoor.Pn
