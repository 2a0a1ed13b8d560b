/- Layer 23: what was synced lasts: plainly. -/
import Derived.Test.YtjejghfeeonghaaDrg
import Derived.Test.YtjejghfeeonghaaDrf
namespace Go.Proofs.Ytjejghfeeonghaa.Dr
open Go Go.RowKit Go.Maps Go.Proofs.Ytjejghfeeonghaa Go.Proofs.Ytjejghfeeonghaa.Au Go.Proofs.Ytjejghfeeonghaa.Re
set_option linter.unusedVariables false
set_option linter.unusedSimpArgs false

theorem find_ins (x : Int × Bk) (j : Int) : ∀ M : List (Int × Bk), (∀ p ∈ M, p.1 ≠ x.1) → findM (insM x M) j = if j = x.1 then some x.2 else findM M j
  | [], _ => by
    by_cases h : j = x.1
    · simp [insM, findM, h]
    · have h' : ¬ x.1 = j := fun e => h e.symm
      simp [insM, findM, h, h']
  | y :: r, hx => by
    have ih := find_ins x j r (fun p hp => hx p (by simp [hp]))
    have hy := hx y (by simp)
    simp only [insM]
    by_cases hlt : x.1 < y.1
    · rw [if_pos hlt]
      by_cases h : j = x.1
      · simp [findM, h]
      · have h' : ¬ x.1 = j := fun e => h e.symm
        simp [findM, h, h', List.find?_cons]
    · rw [if_neg hlt]
      unfold findM at ih ⊢
      rw [List.find?_cons, List.find?_cons]
      by_cases hyj : y.1 = j
      · have h : ¬ j = x.1 := by omega
        simp [hyj, h]
      · simp only [hyj, decide_false]
        exact ih

theorem find_filter (k j : Int) (h : j ≠ k) : ∀ M : List (Int × Bk), findM (M.filter fun p => !decide (p.1 = k)) j = findM M j
  | [] => rfl
  | y :: r => by
    have ih := find_filter k j h r
    unfold findM at ih ⊢
    rw [List.filter_cons, List.find?_cons]
    by_cases hk : y.1 = k
    · have hj : ¬ y.1 = j := by omega
      simp only [hk, decide_true, Bool.not_true, Bool.false_eq_true, if_false]
      rw [ih]
      rw [hk] at hj
      simp [hj]
    · simp only [hk, decide_false, Bool.not_false, if_true]
      rw [List.find?_cons]
      by_cases hj : y.1 = j
      · simp [hj]
      · simp only [hj, decide_false]; exact ih

theorem find_put (M : List (Int × Bk)) (k j : Int) (b : Bk) : findM (putM k b M) j = if j = k then some b else findM M j := by
  unfold putM
  rw [find_ins (k, b) j _ (fun p hp => by simpa using (List.mem_filter.1 hp).2)]
  by_cases h : j = k
  · rw [if_pos h, if_pos h]
  · rw [if_neg h, if_neg h, find_filter k j h]

theorem sync_len (M : List (Int × Bk)) (L : List Bk) : (syncL M L).length = L.length := SL_len _ _ _

theorem sync_at (M : List (Int × Bk)) (L : List Bk) (i : Nat) (h : i < L.length) : (syncL M L).getD i zB = match findM M (i : Int) with | some x => x | none => L.getD i zB := by
  unfold syncL SL
  simp only [List.getD_eq_getElem?_getD, List.getElem?_map, List.getElem?_range h, Option.map_some, Option.getD_some, Bool.false_eq_true, if_false]
  cases findM M (i : Int) <;> rfl

theorem list_ext (A B : List Bk) (hl : A.length = B.length) (h : ∀ i, i < A.length → A.getD i zB = B.getD i zB) : A = B := by
  apply List.ext_getElem hl
  intro i h1 h2
  have := h i h1
  simpa [List.getD, h1, h2] using this

theorem getD_set (L : List Bk) (k i : Nat) (x : Bk) (hk : k < L.length) : (L.set k x).getD i zB = if i = k then x else L.getD i zB := by
  simp only [List.getD_eq_getElem?_getD, List.getElem?_set]
  by_cases h : k = i
  · subst h; simp [hk]
  · rw [if_neg h, if_neg (fun e => h e.symm)]

theorem sync_put (M : List (Int × Bk)) (L : List Bk) (k : Nat) (x : Bk) (hk : k < L.length) : syncL (putM (k : Int) x M) L = (syncL M L).set k x := by
  refine list_ext _ _ (by rw [sync_len, List.length_set, sync_len]) fun i hi => ?_
  rw [sync_len] at hi
  rw [sync_at _ _ i hi, getD_set _ _ _ _ (by rw [sync_len]; exact hk), find_put, sync_at _ _ i hi]
  by_cases h : i = k
  · subst h; simp
  · rw [if_neg (by omega), if_neg h]

theorem sync_none (L : List Bk) : syncL [] L = L := by
  refine list_ext _ _ (sync_len _ _) fun i hi => ?_
  rw [sync_len] at hi
  rw [sync_at _ _ i hi]
  rfl

/-- what is kept is as it lasted, or as it was written last -/
theorem keep_either (M : List (Int × Bk)) (L0 : List Bk) (hM : ∀ p ∈ M, 0 ≤ p.1 ∧ p.1 < L0.length) : ∀ (K : List Int) (L : List Bk), L.length = L0.length → (∀ i, i < L0.length → L.getD i zB = L0.getD i zB ∨ L.getD i zB = (syncL M L0).getD i zB) →
    (keepL M K L).length = L0.length ∧ ∀ i, i < L0.length → (keepL M K L).getD i zB = L0.getD i zB ∨ (keepL M K L).getD i zB = (syncL M L0).getD i zB
  | [], L, hl, h => ⟨hl, h⟩
  | k :: K, L, hl, h => by
    have e : keepL M (k :: K) L = keepL M K (keep1 M L k) := rfl
    rw [e]
    refine keep_either M L0 hM K (keep1 M L k) ?_ ?_
    · unfold keep1; split
      · rw [List.length_set]; exact hl
      · exact hl
    · intro i hi
      unfold keep1
      cases hf : findM M k with
      | none => exact h i hi
      | some x =>
        have hk := hM (k, x) (find_mem hf)
        dsimp only at hk
        show (L.set k.toNat x).getD i zB = _ ∨ (L.set k.toNat x).getD i zB = _
        rw [getD_set _ _ _ _ (by omega)]
        by_cases h1 : i = k.toNat
        · right
          rw [if_pos h1, sync_at _ _ i hi, show (i : Int) = k by omega, hf]
        · rw [if_neg h1]; exact h i hi

/-- are two blocks the same? -/
theorem eq_blk2 (a b : Bk) (ha : a.length = 128) (hb : b.length = 128) (W : World) : (Op.equalIn 10000 36 (bv a) (bv b)).run Try.prog W = .ok (decide (a = b)) W := by
  obtain ⟨i0, hi, hz0, hz1, hz2⟩ := info_parts infoU8
  unfold bv
  rw [run_equalIn_array W 9999 _ _ Try.underlying36 hi, show Try.prog.cellsOf 5 = 1 by kernel_rfl]
  have key : ∀ (d : Nat) (is : List Nat), (∀ i ∈ is, i < 128) → (Op.eqItems (d + 1) 5 1 (vals a).toArray (vals b).toArray is).run Try.prog W = .ok (decide (∀ i ∈ is, a[i]? = b[i]?)) W := by
    intro d is
    induction is with
    | nil => intro _; simp [Op.eqItems]
    | cons i r ih =>
      intro h
      have hia : i < a.length := by rw [ha]; exact h i (by simp)
      have hib : i < b.length := by rw [hb]; exact h i (by simp)
      have ih := ih (fun j hj => h j (by simp [hj]))
      obtain ⟨x, hx⟩ : ∃ x, x = a[i]'hia := ⟨_, rfl⟩
      obtain ⟨y, hy⟩ : ∃ x, x = b[i]'hib := ⟨_, rfl⟩
      have ax : a[i]? = some x := by rw [List.getElem?_eq_getElem hia, hx]
      have bx : b[i]? = some y := by rw [List.getElem?_eq_getElem hib, hy]
      have pa := run_part_plain (P := Try.prog) (e := 5) (w := W) (by kernel_rfl) (xs := (vals a).toArray) (off := i) (v := .int .u8 (x.toNat : Int)) (by simp [vals, ax])
      have pb := run_part_plain (P := Try.prog) (e := 5) (w := W) (by kernel_rfl) (xs := (vals b).toArray) (off := i) (v := .int .u8 (y.toNat : Int)) (by simp [vals, bx])
      have he := run_equalIn_int (P := Try.prog) W d 5 .u8 .u8 (x.toNat : Int) (y.toNat : Int) Try.underlying5
      clear hx hy hia hib
      by_cases hc : x = y
      · subst hc
        have hall : decide (∀ j ∈ i :: r, a[j]? = b[j]?) = decide (∀ j ∈ r, a[j]? = b[j]?) := decide_eq_decide.2 ⟨fun h j hj => h j (by simp [hj]), fun h j hj => by
          rcases List.mem_cons.1 hj with rfl | hj
          · rw [ax, bx]
          · exact h j hj⟩
        have he' : (Op.equalIn (d + 1) 5 (.int .u8 (x.toNat : Int)) (.int .u8 (x.toNat : Int))).run Try.prog W = .ok true W := by rw [he]; simp
        rw [hall, ← ih]
        simp [Op.eqItems, Sem.run_bind, pa, pb, he']
      · have hall : decide (∀ j ∈ i :: r, a[j]? = b[j]?) = false := by
          apply decide_eq_false
          intro h
          have := h i (by simp)
          rw [ax, bx] at this
          simp at this
          exact hc this
        have hn : ¬ x.toNat = y.toNat := fun e => hc (UInt8.toNat_inj.1 e)
        have he' : (Op.equalIn (d + 1) 5 (.int .u8 (x.toNat : Int)) (.int .u8 (y.toNat : Int))).run Try.prog W = .ok false W := by rw [he]; simp; omega
        rw [hall]
        simp [Op.eqItems, Sem.run_bind, pa, pb, he']
  rw [key 9998 _ (fun i hi => by simpa using hi)]
  congr 1
  rw [decide_eq_decide]
  constructor
  · intro h
    apply List.ext_getElem?
    intro i
    by_cases hlt : i < 128
    · exact h i (by simp; exact hlt)
    · rw [List.getElem?_eq_none (by omega), List.getElem?_eq_none (by omega)]
  · intro h i _; rw [h]

end Go.Proofs.Ytjejghfeeonghaa.Dr
