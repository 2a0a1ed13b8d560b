/- Layer 26 (stamp): works in memory; literal rows of digests and works; the program's keys. -/
import Derived.Test.YtndpidmbfdpiaaaDoorK28
import Derived.Great.BuildSlice
import Derived.Deep.AppendLies
namespace Go.Proofs.YtndpidmbfdpiaaaDoor.St
open Go Go.RowKit Go.Proofs.YtndpidmbfdpiaaaDoor Go.Proofs.YtndpidmbfdpiaaaDoor.Au Go.Proofs.YtndpidmbfdpiaaaDoor.Re Go.Proofs.YtndpidmbfdpiaaaDoor.Se Go.Proofs.YtndpidmbfdpiaaaDoor.Pn
set_option linter.unusedVariables false
set_option linter.unusedSimpArgs false

/-- a work's cells -/
def wc (k f : Int) (K : List UInt8) (nv : Value) : List Value := .int .i64 k :: .int .i64 f :: (vals K ++ [nv])
theorem wc_len {k f : Int} {K : List UInt8} {nv : Value} (h : K.length = 32) : (wc k f K nv).length = 35 := by simp [wc, vals_length, h]
/-- some works' cells -/
def W (ks : List (List UInt8)) (vs : List Value) (n : Nat) : List Value := ((List.range n).map fun m : Nat => wc ((m % 4 : Nat) : Int) ((m / 4 : Nat) : Int) (ks.getD m []) (vs.getD m undef)).flatten
theorem W_zero (ks : List (List UInt8)) (vs : List Value) : W ks vs 0 = [] := rfl
theorem W_succ (ks : List (List UInt8)) (vs : List Value) (n : Nat) : W ks vs (n + 1) = W ks vs n ++ wc ((n % 4 : Nat) : Int) ((n / 4 : Nat) : Int) (ks.getD n []) (vs.getD n undef) := by
  simp [W, List.range_succ]
theorem W_len {ks : List (List UInt8)} {vs : List Value} : ∀ n, (∀ m, m < n → (ks.getD m []).length = 32) → (W ks vs n).length = n * 35
  | 0, _ => by simp [W]
  | n + 1, h => by
    rw [W_succ, List.length_append, W_len n (fun m hm => h m (by omega)), wc_len (h n (by omega))]
    omega
theorem W_at {ks : List (List UInt8)} {vs : List Value} : ∀ n, (∀ m, m < n → (ks.getD m []).length = 32) → ∀ x j, x < n → j < 35 → (W ks vs n)[x * 35 + j]? = (wc ((x % 4 : Nat) : Int) ((x / 4 : Nat) : Int) (ks.getD x []) (vs.getD x undef))[j]?
  | 0, _, x, j, hx, _ => absurd hx (Nat.not_lt_zero _)
  | n + 1, h, x, j, hx, hj => by
    have hl := W_len (ks := ks) (vs := vs) n (fun m hm => h m (by omega))
    rw [W_succ]
    by_cases e : x = n
    · subst e
      rw [List.getElem?_append_right (by omega), hl]
      congr 1
      omega
    · rw [List.getElem?_append_left (by omega)]
      exact W_at n (fun m hm => h m (by omega)) x j (by omega) hj
theorem W_more {ks : List (List UInt8)} {vs : List Value} {K : List UInt8} {v : Value} : ∀ n, n ≤ ks.length → n ≤ vs.length → W (ks ++ [K]) (vs ++ [v]) n = W ks vs n
  | 0, _, _ => rfl
  | n + 1, h1, h2 => by
    rw [W_succ, W_succ, W_more n (by omega) (by omega)]
    have e1 : (ks ++ [K]).getD n [] = ks.getD n [] := by simp [List.getD, List.getElem?_append_left (show n < ks.length by omega)]
    have e2 : (vs ++ [v]).getD n undef = vs.getD n undef := by simp [List.getD, List.getElem?_append_left (show n < vs.length by omega)]
    rw [e1, e2]
theorem wc_key {k f : Int} {K : List UInt8} {nv : Value} (h : K.length = 32) {j : Nat} (hj : j < 32) : (wc k f K nv)[j + 2]? = (vals K)[j]? := by
  unfold wc
  rw [List.getElem?_cons_succ, List.getElem?_cons_succ, List.getElem?_append_left (by rw [vals_length]; omega)]
theorem wc_need {k f : Int} {K : List UInt8} {nv : Value} (h : K.length = 32) : (wc k f K nv)[34]? = some nv := by
  unfold wc
  rw [List.getElem?_cons_succ, List.getElem?_cons_succ, List.getElem?_append_right (by rw [vals_length]; omega)]
  simp [vals_length, h]

/-- what lies in the block of a list of works -/
theorem own_w {w : World} {B N c : Nat} {a : Option Addr} {ks : List (List UInt8)} {vs : List Value} (h : w.ownsRow B 49 35 (.slice a N c) N (W ks vs N)) (h32 : ∀ m, m < N → (ks.getD m []).length = 32) {x : Nat} (hx : x < N) :
    ∃ q, a = some ⟨q, 0, none⟩ ∧ B ≤ q ∧ q < w.heap.size ∧ w.rangeAt q (x * 35) (wc ((x % 4 : Nat) : Int) ((x / 4 : Nat) : Int) (ks.getD x []) (vs.getD x undef)) := by
  rcases h.2 with ⟨h1, h2⟩ | ⟨q, cap, cur, h1, h2, h3, h4, h5, h6, h7⟩
  · omega
  · cases h1
    refine ⟨q, rfl, h2, lt_heap h3, fun j v hj => ?_⟩
    have hjl : j < 35 := by
      have := (List.getElem?_eq_some_iff.1 hj).1
      rwa [wc_len (h32 x hx)] at this
    have hl := W_at N h32 x j hx hjl (vs := vs)
    rw [hj, ← h7, List.getElem?_take] at hl
    rw [if_pos (by omega)] at hl
    simp only [World.cell?, h3]
    simpa using hl
theorem own_key {w : World} {q o : Nat} {k f : Int} {K : List UInt8} {nv : Value} (h : w.rangeAt q o (wc k f K nv)) (h32 : K.length = 32) : w.rangeAt q (o + 2) (vals K) := fun j v hj => by
  have hj32 : j < 32 := by
    have := (List.getElem?_eq_some_iff.1 hj).1
    rwa [vals_length, h32] at this
  have := h (j + 2) v (by rw [wc_key h32 hj32]; exact hj)
  rw [show o + 2 + j = o + (j + 2) by omega]
  exact this
theorem own_need {w : World} {q o : Nat} {k f : Int} {K : List UInt8} {nv : Value} (h : w.rangeAt q o (wc k f K nv)) (h32 : K.length = 32) : w.cell? ⟨q, o + 34, none⟩ = some nv := h 34 nv (wc_need h32)

def needM (m : Nat) : List Int := needL (m % 4) (m / 4)
/-- all that a work is made of -/
def ofsL (job : List UInt8) (ks : List (List UInt8)) (need : List Int) : List (List UInt8) := if need = [] then [job] else need.map fun x => ks.getD x.toNat []
def klist (job : List UInt8) : Nat → List (List UInt8)
  | 0 => []
  | n + 1 => klist job n ++ [keyB ((n % 4 : Nat) : Int) ((n / 4 : Nat) : Int) (ofsL job (klist job n) (needM n))]
theorem klist_len (job : List UInt8) : ∀ n, (klist job n).length = n
  | 0 => rfl
  | n + 1 => by simp [klist, klist_len job n]
theorem klist_32 (job : List UInt8) : ∀ n, ∀ m, m < n → ((klist job n).getD m []).length = 32
  | 0, m, h => absurd h (Nat.not_lt_zero _)
  | n + 1, m, h => by
    unfold klist
    by_cases e : m = n
    · subst e
      simp [List.getD, List.getElem?_append_right, klist_len, keyB, shaB_len]
    · have := klist_32 job n m (by omega)
      simp only [List.getD] at this ⊢
      rw [List.getElem?_append_left (by rw [klist_len]; omega)]
      exact this
theorem need_lt (m : Nat) : ∀ x ∈ needM m, 0 ≤ x ∧ x < (m : Int) := by
  intro x hx
  unfold needM needL at hx
  have h4 : m % 4 < 4 := Nat.mod_lt _ (by decide)
  have he : m = 4 * (m / 4) + m % 4 := by omega
  split at hx
  · rename_i h
    split at hx
    · simp at hx; omega
    · simp at hx; omega
  · rename_i h; simp at hx; omega
  · rename_i h; simp at hx; omega
  · cases hx
theorem need_len (m : Nat) : (needM m).length ≤ 3 := by
  unfold needM needL
  split
  · split <;> simp
  · simp
  · simp
  · simp

theorem fold_part (off : Nat) (R cs : Array Value) : (R.zipIdx.foldl (fun cs (x : Value × Nat) => cs.setIfInBounds (off + x.2) x.1) cs) = ((R.toList.zipIdx 0).foldl (fun cs (x : Value × Nat) => cs.setIfInBounds (off + x.2) x.1) cs) := by
  rw [← Array.foldl_toList, Array.toList_zipIdx]
theorem fill_one (N : Nat) (R Z : Array Value) (hR : R.size = N) (hZ : Z.size = N) : Instr.fill (fun i => some (i * N, N)) Z [(0, .agg R)] = some R := by
  unfold Instr.fill
  simp only [Nat.zero_mul]
  rw [if_neg (by rw [show (Value.agg R).cells = R from rfl]; simp; omega)]
  unfold Instr.fill
  congr 1
  rw [show (Value.agg R).cells = R from rfl, fold_part]
  obtain ⟨h1, h2⟩ := Great.foldl_set 0 R.toList 0 Z
  apply Array.ext_getElem?
  intro k
  rw [h2 k]
  simp only [Nat.zero_add, Nat.sub_zero, Array.length_toList]
  by_cases hk : k < N
  · rw [if_pos (by omega)]; simp
  · rw [if_neg (by omega)]; simp [hR, hZ, hk]

abbrev Y35 : Array Value := #[.int .i64 0, .int .i64 0, .int .u8 0, .int .u8 0, .int .u8 0, .int .u8 0, .int .u8 0, .int .u8 0, .int .u8 0, .int .u8 0, .int .u8 0, .int .u8 0, .int .u8 0, .int .u8 0, .int .u8 0, .int .u8 0, .int .u8 0, .int .u8 0, .int .u8 0, .int .u8 0, .int .u8 0, .int .u8 0, .int .u8 0, .int .u8 0, .int .u8 0, .int .u8 0, .int .u8 0, .int .u8 0, .int .u8 0, .int .u8 0, .int .u8 0, .int .u8 0, .int .u8 0, .int .u8 0, .slice none 0 0]
theorem infoD : (Tryd.prog.info? 33).map (fun i => (i.zero, i.size, i.bytes)) = some (some (.agg Y32), 32, 32) := by kernel_rfl
theorem infoW : (Tryd.prog.info? 49).map (fun i => (i.zero, i.size, i.bytes)) = some (some (.agg Y35), 35, 72) := by kernel_rfl

section
variable {ops : Array Oper} {rest : List Oper} {o : Oper} {a : Act} {w : World} {Q : Exit → Act → World → Prop}
theorem lit_dig (hg : o.guard = none) (x : Operand) (ho : o.op = .buildSlice 25 1 #[(0, x)]) (R : Array Value) (hR : R.size = 32) (hx : a.eval x = .agg R)
    (h : wpList Tryd.prog ops Q rest (a.put o.dst (.slice (some ⟨w.heap.size, 0, none⟩) 1 1)) (w.alloc (.cells R 33))) : wpList Tryd.prog ops Q (o :: rest) a w := by
  obtain ⟨i0, hi, hz0, hz1, hz2⟩ := info_parts infoD
  refine wpList_buildSlice hg 25 33 1 #[(0, x)] ho R i0 _ Tryd.underlying25 hi hz0 (by rw [hz1]; decide) (by rw [hz1]; decide) ?_ h
  rw [hz1]
  simp only [List.map_toArray, List.map_cons, List.map_nil, hx]
  exact fill_one 32 R _ hR (by simp)
theorem lit_work (hg : o.guard = none) (x : Operand) (ho : o.op = .buildSlice 40 1 #[(0, x)]) (R : Array Value) (hR : R.size = 35) (hx : a.eval x = .agg R)
    (h : wpList Tryd.prog ops Q rest (a.put o.dst (.slice (some ⟨w.heap.size, 0, none⟩) 1 1)) (w.alloc (.cells R 49))) : wpList Tryd.prog ops Q (o :: rest) a w := by
  obtain ⟨i0, hi, hz0, hz1, hz2⟩ := info_parts infoW
  refine wpList_buildSlice hg 40 49 1 #[(0, x)] ho R i0 _ Tryd.underlying40 hi hz0 (by rw [hz1]; decide) (by rw [hz1]; decide) ?_ h
  rw [hz1]
  simp only [List.map_toArray, List.map_cons, List.map_nil, hx]
  exact fill_one 35 R _ hR (by simp)
end

/-- a row of digests that is owned, as a list that lies -/
theorem own_dgs {w : World} {B n : Nat} {v : Value} {ds : List (List UInt8)} (h : w.ownsRow B 33 32 v n (vals ds.flatten)) (h32 : ∀ d ∈ ds, d.length = 32) (hn : n = ds.length) (hm : n ≤ 1000000) : Dgs w v ds := by
  refine ⟨h32, ?_⟩
  rcases h.2 with ⟨rfl, h2⟩ | ⟨q, cap, cur, rfl, h2, h3, h4, h5, h6, h7⟩
  · subst h2
    exact ⟨none, 0, 0, rfl, hn, by omega, .inl rfl⟩
  · refine ⟨_, n, cap, rfl, hn, hm, .inr ⟨q, 0, rfl, lt_heap h3, fun j hj i u hu => ?_⟩⟩
    have hi : i < 32 := by
      have := (List.getElem?_eq_some_iff.1 hu).1
      have hd := h32 (ds.getD j []) (by simp only [List.getD, List.getElem?_eq_getElem (show j < ds.length by omega), Option.getD_some]; exact List.getElem_mem _)
      rw [vals_length, hd] at this
      exact this
    have key : ∀ (l : List (List UInt8)), (∀ d ∈ l, d.length = 32) → ∀ j, j < l.length → (vals l.flatten)[j * 32 + i]? = (vals (l.getD j []))[i]? := by
      intro l
      induction l with
      | nil => intro _ j hj; exact absurd hj (Nat.not_lt_zero _)
      | cons d l ih =>
        intro hl j hj
        have hd := hl d (List.mem_cons_self)
        rw [List.flatten_cons, vals_append]
        cases j with
        | zero =>
          rw [List.getElem?_append_left (by rw [vals_length, hd]; omega)]
          simp
        | succ j =>
          rw [List.getElem?_append_right (by rw [vals_length, hd]; omega), vals_length, hd]
          have := ih (fun d hd => hl d (List.mem_cons_of_mem _ hd)) j (by simpa using hj)
          rw [show (j + 1) * 32 + i - 32 = j * 32 + i by omega, this]
          simp
    have hk := key ds h32 j (by omega)
    rw [hu, ← h7, List.getElem?_take, if_pos (by omega)] at hk
    simp only [World.cell?, h3, Nat.zero_add]
    simpa using hk

theorem map_take {need : List Int} {f : Int → List UInt8} {i : Nat} (h : i < need.length) : ((need.take (i + 1)).map f).flatten = ((need.take i).map f).flatten ++ f (need.getD i 0) := by
  rw [List.take_succ_eq_append_getElem h, List.map_append, List.flatten_append]
  simp [List.getD, h]
end Go.Proofs.YtndpidmbfdpiaaaDoor.St
