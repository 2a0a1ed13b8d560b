/- Trees: Make of any pairs; what the law's loops ask, plainly. -/
import Derived.Test.YtoppcnkfgmbpfaaE48
import Derived.Test.YtoppcnkfgmbpfaaE49
import Derived.Test.YtoppcnkfgmbpfaaE50
import Derived.Test.YtoppcnkfgmbpfaaE47
namespace Go.Proofs.Ytoppcnkfgmbpfaa.Tr
open Go.RowKit Go.Proofs.Ytoppcnkfgmbpfaa Go.Proofs.Ytoppcnkfgmbpfaa.Wa Go.Proofs.Ytoppcnkfgmbpfaa.Ve Go.Proofs.Ytoppcnkfgmbpfaa.Au Go.Proofs.Ytoppcnkfgmbpfaa.Bx
set_option linter.unusedVariables false
set_option linter.unusedSimpArgs false

section
variable {P : Program}
theorem step_make_full {ops : Array Oper} {o : Oper} {a : Act} {w : World} {K : Act → World → Prop} {Q : Exit → Act → World → Prop} {E : Prop} (hg : o.guard = none) (l c : Operand) (t : TypeId) (hop : o.op = Op.makeSlice t l c)
    (base : Nat) (e : TypeId) (i : TypeInfo) (z : Value) (size : Nat) (h1 : P.underlying t = some (.slice e)) (h2 : P.info? e = some i) (h3 : i.zero = some z) (h4 : i.size = size)
    (kl kc : IntKind) (L C : Int) (n : Nat) (hl : a.eval l = .int kl L) (hc : a.eval c = .int kc C) (hL : L = (n : Int)) (hC : C = (n : Int)) (b2 : i.bytes * n ≤ 281474976710656) (b3 : n ≤ maxLen) (b4 : base ≤ w.heap.size)
    (hK : ∀ w', w'.ownsRow base e size (.slice (some ⟨w.heap.size, 0, none⟩) n n) n (madeCells z.cells (n * size)).toList → w.grownBy w' none → K (a.put o.dst (.slice (some ⟨w.heap.size, 0, none⟩) n n)) w') :
    if Region.wanted o (yielded ops a.tmps) = true then Oper.wp P o a w K Q else E := by
  have hw : Region.wanted o (yielded ops a.tmps) = true := by simp [Region.wanted, hg]
  rw [if_pos hw]
  obtain ⟨w', hrun, r1, r2⟩ := run_make_full (P := P) w base t e i z size h1 h2 h3 h4 kl kc n b2 b3 b4
  subst hL
  subst hC
  unfold Oper.wp
  simp [execOp, hop, hl, hc, hrun, Result.andThen]
  exact hK w' r1 r2
end

/-- what Make makes of n pairs, none included -/
def mk (PL : Nat → Int) (n : Nat) : List Nd × List Nat := if n = 0 then ([], []) else grow PL n (List.range n) 0 0

theorem mk_pos (PL : Nat → Int) (n : Nat) (h : 1 ≤ n) : mk PL n = grow PL n (List.range n) 0 0 := by unfold mk; rw [if_neg (by omega)]

theorem mk_len (PL : Nat → Int) (n : Nat) : (mk PL n).2.length = n ∧ (mk PL n).1.length ≤ 2 * n := by
  unfold mk
  split
  · rename_i h; subst h; simp
  · have := grow_len PL n (List.range n) 0 0 (by simp; omega) (by simp)
    simp at this
    omega

theorem make_own (PL : Nat → Int) (n b : Nat) (h2 : n ≤ 128) (v : Value) (w : World) (hv : w.ownsRow b 43 12 v n (flat12 PL n)) :
    Calls Try.prog 6 #[v] w fun e w' => (∃ t, e = .returned t ∧ TreeP PL w.heap.size (mk PL n).1 (mk PL n).2 t w') ∧ Below w.heap.size w w' := by
  by_cases h0 : n = 0
  · subst h0
    obtain ⟨a, k, rfl⟩ := own_slice hv
    refine (make_none a 0 k (Or.inl rfl) (by decide) w).mono ?_
    rintro e w' ⟨rfl, hb⟩
    exact ⟨⟨_, rfl, _, _, rfl, World.ownsRow_nil _ _ _ _, World.ownsRow_nil _ _ _ _⟩, hb⟩
  · rw [mk_pos PL n (by omega)]
    have hv' := hv
    rcases hv.2 with ⟨_, hx⟩ | ⟨g, cap, cur, hform, hg, hcur, -⟩
    · exact absurd hx h0
    · subst hform
      exact make_l PL n g 0 cap (by omega) h2 w (lt_heap hcur) (fun j hj => by rw [Nat.zero_add, hv'.cellAt j hj, flat12_at _ _ _ hj])

def s0 : St := ⟨fun _ => 0, fun _ => 0, 0⟩
def St_ (NS : List Nd) (i : Nat) : St := hruns s0 (NS.take i)

theorem St_step (NS : List Nd) (i : Nat) (nd : Nd) (h : NS[i]? = some nd) : St_ NS (i + 1) = hround (St_ NS i) nd := by
  unfold St_
  rw [take_snoc NS i nd h, hruns_append]
  rfl

theorem ups_ge (l : List Nat) (f : Nat → Int) (k : Nat) : f k ≤ ups f l k := by
  rw [ups_count]
  omega

theorem hround_mono (s : St) (n : Nd) (k : Nat) : s.seen k ≤ (hround s n).seen k ∧ s.named k ≤ (hround s n).named k := by
  unfold hround
  split
  · exact ⟨ups_ge _ _ _, Int.le_refl _⟩
  · refine ⟨Int.le_refl _, ?_⟩
    show s.named k ≤ up (up s.named n.left.toNat) n.right.toNat k
    unfold up
    split <;> split <;> omega

theorem hruns_mono : ∀ (ns : List Nd) (s : St) (k : Nat), s.seen k ≤ (hruns s ns).seen k ∧ s.named k ≤ (hruns s ns).named k
  | [], s, k => ⟨Int.le_refl _, Int.le_refl _⟩
  | n :: ns, s, k => by
    have h1 := hround_mono s n k
    have h2 := hruns_mono ns (hround s n) k
    exact ⟨Int.le_trans h1.1 h2.1, Int.le_trans h1.2 h2.2⟩

theorem St_nonneg (NS : List Nd) (i k : Nat) : 0 ≤ (St_ NS i).seen k ∧ 0 ≤ (St_ NS i).named k := hruns_mono (NS.take i) s0 k

theorem St_le (NS : List Nd) (i k : Nat) : (St_ NS i).seen k ≤ (hruns s0 NS).seen k ∧ (St_ NS i).named k ≤ (hruns s0 NS).named k := by
  have h := hruns_mono (NS.drop i) (St_ NS i) k
  unfold St_ at *
  rw [← hruns_append, List.take_append_drop] at h
  exact h

theorem mk_end (PL : Nat → Int) (n : Nat) : (hruns s0 (mk PL n).1).next = n ∧ (∀ k, k < n → (hruns s0 (mk PL n).1).seen k = 1) ∧
    (∀ k, k < (mk PL n).1.length → (hruns s0 (mk PL n).1).named k = if k = 0 then 0 else 1) := by
  by_cases h : n = 0
  · subst h
    exact ⟨rfl, fun k hk => absurd hk (by omega), fun k hk => absurd hk (by simp [mk])⟩
  · rw [mk_pos PL n (by omega)]
    exact make_end PL n (by omega)

theorem mk_ok (PL : Nat → Int) (n i : Nat) (nd : Nd) (h : (mk PL n).1[i]? = some nd) : NodeOK PL (mk PL n).1 (mk PL n).2 n i (St_ (mk PL n).1 i).next nd := by
  by_cases h0 : n = 0
  · subst h0
    simp [mk] at h
  · rw [mk_pos PL n (by omega)] at h ⊢
    exact make_ok PL n (by omega) i nd h

theorem named_bd (PL : Nat → Int) (n i k : Nat) (hk : k < (mk PL n).1.length) : 0 ≤ (St_ (mk PL n).1 i).named k ∧ (St_ (mk PL n).1 i).named k ≤ 1 := by
  refine ⟨(St_nonneg _ _ _).2, Int.le_trans (St_le _ i k).2 ?_⟩
  rw [(mk_end PL n).2.2 k hk]
  split <;> omega

theorem seen_bd (PL : Nat → Int) (n i : Nat) (nd : Nd) (h : (mk PL n).1[i]? = some nd) (hc : 0 < nd.count) (j k : Nat) (hk : k < n) :
    0 ≤ ups (St_ (mk PL n).1 i).seen (nd.l.take j) k ∧ ups (St_ (mk PL n).1 i).seen (nd.l.take j) k ≤ 1 := by
  refine ⟨Int.le_trans (St_nonneg _ i k).1 (ups_ge _ _ _), ?_⟩
  have h1 : ups (St_ (mk PL n).1 i).seen (nd.l.take j) k ≤ ups (St_ (mk PL n).1 i).seen nd.l k := by
    rw [ups_count, ups_count]
    have : (nd.l.take j).count k ≤ nd.l.count k := (List.take_sublist j nd.l).count_le k
    omega
  have h2 : ups (St_ (mk PL n).1 i).seen nd.l k = (St_ (mk PL n).1 (i + 1)).seen k := by
    rw [St_step _ _ _ h]
    unfold hround
    rw [if_pos hc]
  rw [h2] at h1
  have h3 := (St_le (mk PL n).1 (i + 1) k).1
  rw [(mk_end PL n).2.1 k hk] at h3
  omega

theorem ups_step (f : Nat → Int) (l : List Nat) (j : Nat) (hj : j < l.length) : ups f (l.take (j + 1)) = up (ups f (l.take j)) (l.getD j 0) := by
  unfold ups
  rw [List.take_add_one, List.getElem?_eq_getElem hj, getD_lt _ _ hj, List.foldl_append]
  rfl

/-- the twelve cells of a node's pair -/
def pcs (PL : Nat → Int) (l : List Nat) : List Value := (pair12 PL l).map fun x => .int .i64 x

theorem pcs_len (PL : Nat → Int) (l : List Nat) : (pcs PL l).length = 12 := rfl

theorem pcs_ncs (PL : Nat → Int) (nd : Nd) (j : Nat) (v : Value) (h : (pcs PL nd.l)[j]? = some v) : (ncs PL nd)[j]? = some v := by
  have hj : j < 12 := by
    rcases Nat.lt_or_ge j 12 with h1 | h1
    · exact h1
    · rw [List.getElem?_eq_none (by rw [pcs_len]; exact h1)] at h; cases h
  unfold ncs Nd.nums
  rw [List.map_append, List.getElem?_append_left (by rw [List.length_map]; exact hj)]
  exact h

theorem range_row {w : World} {b o : Nat} {cs : Array Value} {t : TypeId} {l : List Value} (h : w.heap[b]? = some (.cells cs t (0, 0))) (hl : ∀ j v, l[j]? = some v → cs[o + j]? = some v) : w.rangeAt b o l :=
  fun j v hv => by rw [cell_of_row _ _ _ _ _ _ h]; exact hl j v hv

theorem hold_call (p q : Nat → Int) (h : Hold p q) (w : World) : Calls Try.prog 13 #[.agg #[.int .i64 (p 0), .int .i64 (p 1), .int .i64 (p 2), .int .i64 (p 3), .int .i64 (p 4), .int .i64 (p 5), .int .i64 (p 6), .int .i64 (p 7), .int .i64 (p 8), .int .i64 (p 9), .int .i64 (p 10), .int .i64 (p 11)], .agg #[.int .i64 (q 0), .int .i64 (q 1), .int .i64 (q 2), .int .i64 (q 3), .int .i64 (q 4), .int .i64 (q 5), .int .i64 (q 6), .int .i64 (q 7), .int .i64 (q 8), .int .i64 (q 9), .int .i64 (q 10), .int .i64 (q 11)]] w fun e w' => e = .returned (.bool true) ∧ Below w.heap.size w w' :=
  holds_yes _ _ _ _ _ _ _ _ _ _ _ _ _ _ _ _ _ _ _ _ _ _ _ _ (h 0 (by decide)) (h 3 (by decide)) (h 1 (by decide)) (h 4 (by decide)) (h 2 (by decide)) (h 5 (by decide)) (h 6 (by decide)) (h 9 (by decide)) (h 7 (by decide)) (h 10 (by decide)) (h 8 (by decide)) (h 11 (by decide)) w

end Go.Proofs.Ytoppcnkfgmbpfaa.Tr

/- Nothing of its own: what it imports. -/
namespace Go.Proofs.Ytoppcnkfgmbpfaa.Tr
end Go.Proofs.Ytoppcnkfgmbpfaa.Tr
