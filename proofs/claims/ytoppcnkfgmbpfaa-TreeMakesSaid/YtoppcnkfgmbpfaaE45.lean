/- Trees: what the document's tree is while it is made. -/
import Derived.Test.YtoppcnkfgmbpfaaE38
namespace Go.Proofs.Ytoppcnkfgmbpfaa.Tr
open Go.RowKit Go.Proofs.Ytoppcnkfgmbpfaa Go.Proofs.Ytoppcnkfgmbpfaa.Wa Go.Proofs.Ytoppcnkfgmbpfaa.Ve Go.Proofs.Ytoppcnkfgmbpfaa.Au Go.Proofs.Ytoppcnkfgmbpfaa.Bx
set_option linter.unusedVariables false
set_option linter.unusedSimpArgs false

/-- nodes and order, as the document holds them -/
structure RAt (base : Nat) (w : World) (PL : Nat → Int) (ns : List Nd) (od : List Nat) (vn vo : Value) : Prop where
  rn : w.ownsRow base 53 16 vn ns.length (flatNd PL ns)
  ro : w.ownsRow base 3 1 vo od.length (nv od)

/-- what else there was stays as it was -/
structure KeptR (base : Nat) (w w' : World) (vn vo vn' vo' : Value) : Prop where
  below : Below base w w'
  other : ∀ q, q < w.heap.size → vn.ownBlock ≠ some q → vo.ownBlock ≠ some q → w'.heap[q]? = w.heap[q]?
  gn : ∀ q, vn'.ownBlock = some q → vn.ownBlock = some q ∨ w.heap.size ≤ q
  go : ∀ q, vo'.ownBlock = some q → vo.ownBlock = some q ∨ w.heap.size ≤ q

theorem KeptR.trans {base : Nat} {a b c : World} {v0 o0 v1 o1 v2 o2 : Value} (h : KeptR base a b v0 o0 v1 o1) (k : KeptR base b c v1 o1 v2 o2) : KeptR base a c v0 o0 v2 o2 := by
  have hs := h.below.size
  refine ⟨h.below.trans k.below, fun q h1 h3 h4 => ?_, fun q hq => ?_, fun q hq => ?_⟩
  · refine (k.other q (by omega) (fun e => ?_) (fun e => ?_)).trans (h.other q h1 h3 h4)
    · rcases h.gn q e with e | e
      · exact h3 e
      · omega
    · rcases h.go q e with e | e
      · exact h4 e
      · omega
  · rcases k.gn q hq with e | e
    · exact h.gn q e
    · exact Or.inr (by omega)
  · rcases k.go q hq with e | e
    · exact h.go q e
    · exact Or.inr (by omega)

theorem KeptR.of {base : Nat} {w w' : World} {vn vo : Value} (hb : Below w.heap.size w w') (hs : base ≤ w.heap.size) : KeptR base w w' vn vo vn vo :=
  ⟨hb.mono hs, fun q h1 _ _ => hb.block q h1, fun q h => Or.inl h, fun q h => Or.inl h⟩

theorem RAt.on {base : Nat} {w w' : World} {vn vo : Value} {PL : Nat → Int} {ns : List Nd} {od : List Nat} (h : RAt base w PL ns od vn vo) (hb : Below w.heap.size w w') : RAt base w' PL ns od vn vo :=
  ⟨own_keep h.rn fun q hq => hb.block q (h.rn.lt q hq).2, own_keep h.ro fun q hq => hb.block q (h.ro.lt q hq).2⟩

theorem rtne : (53 : TypeId) ≠ 3 := by decide

theorem r_nodes {base : Nat} {y y2 : World} {vn vo v2 : Value} {PL : Nat → Int} {ns : List Nd} {od : List Nat} {nd : Nd} (h : RAt base y PL ns od vn vo) (hs : base ≤ y.heap.size)
    (ho : y2.ownsRow base 53 16 v2 (ns.length + 1) (flatNd PL ns ++ (nd.nums PL).map fun x => .int .i64 x)) (hg : y.grownBy y2 vn.ownBlock) (hat : ∀ q, v2.ownBlock = some q → vn.ownBlock = some q ∨ y.heap.size ≤ q) :
    RAt base y2 PL (ns ++ [nd]) od v2 vo ∧ KeptR base y y2 vn vo v2 vo := by
  refine ⟨⟨?_, ?_⟩, ⟨?_, ?_, hat, fun q hq => Or.inl hq⟩⟩
  · rw [List.length_append, flatNd_append]
    simpa [flatNd] using ho
  · exact own_keep h.ro fun q hq => hg.block q (h.ro.lt q hq).2 (fun e => own_types_ne h.rn h.ro rtne e.symm hq)
  · exact Below.refl base y |>.grown hg hs (fun k hk => (h.rn.lt k hk).1)
  · intro q h1 h3 h4
    exact hg.block q h1 (fun e => h3 e.symm)

theorem r_order {base : Nat} {y y2 : World} {vn vo v2 : Value} {PL : Nat → Int} {ns : List Nd} {od l : List Nat} (h : RAt base y PL ns od vn vo) (hs : base ≤ y.heap.size)
    (ho : y2.ownsRow base 3 1 v2 (od.length + l.length) (nv od ++ nv l)) (hg : y.grownBy y2 vo.ownBlock) (hat : ∀ q, v2.ownBlock = some q → vo.ownBlock = some q ∨ y.heap.size ≤ q) :
    RAt base y2 PL ns (od ++ l) vn v2 ∧ KeptR base y y2 vn vo vn v2 := by
  refine ⟨⟨?_, ?_⟩, ⟨?_, ?_, fun q hq => Or.inl hq, hat⟩⟩
  · exact own_keep h.rn fun q hq => hg.block q (h.rn.lt q hq).2 (fun e => own_types_ne h.rn h.ro rtne hq e.symm)
  · rw [List.length_append]
    have e : nv (od ++ l) = nv od ++ nv l := by simp [nv]
    rw [e]
    exact ho
  · exact Below.refl base y |>.grown hg hs (fun k hk => (h.ro.lt k hk).1)
  · intro q h1 h3 h4
    exact hg.block q h1 (fun e => h4 e.symm)

/-- one number of a node is set -/
theorem r_set {base : Nat} {y : World} {g cap m : Nat} {vo : Value} {PL : Nat → Int} {ns ns' : List Nd} {od : List Nat} (j : Nat) (x : Int) (hm : m = ns.length) (hm' : ns'.length = ns.length) (h : RAt base y PL ns od (.slice (some ⟨g, 0, none⟩) m cap) vo)
    (hf : (flatNd PL ns).set j (.int .i64 x) = flatNd PL ns') :
    RAt base (y.setCell ⟨g, j, none⟩ (.int .i64 x)) PL ns' od (.slice (some ⟨g, 0, none⟩) m cap) vo ∧ KeptR base y (y.setCell ⟨g, j, none⟩ (.int .i64 x)) (.slice (some ⟨g, 0, none⟩) m cap) vo (.slice (some ⟨g, 0, none⟩) m cap) vo := by
  subst hm
  obtain ⟨hbg, -⟩ := own_in h.rn (q := g) rfl
  have hn := (h.rn.stored j (.int .i64 x)).1
  rw [hf] at hn
  refine ⟨⟨by rw [hm']; exact hn, own_keep h.ro fun q hq => setCell_heap _ _ _ _ _ (fun e => own_types_ne h.rn h.ro rtne (q := g) rfl (e ▸ hq))⟩, ⟨(Below.refl base y).setCell (by show base ≤ g; exact hbg) _, fun q h1 h3 h4 => setCell_heap _ _ _ _ _ (fun e => h3 (by rw [e]; rfl)), fun q hq => Or.inl hq, fun q hq => Or.inl hq⟩⟩

theorem set_one (PL : Nat → Int) (ns rest : List Nd) (l : List Nat) (a b c d x : Int) (k : Nat) (nd' : Nd) (hk : k < 4) (hnd : nd' = if k = 0 then ⟨l, x, b, c, d⟩ else if k = 1 then ⟨l, a, x, c, d⟩ else if k = 2 then ⟨l, a, b, x, d⟩ else ⟨l, a, b, c, x⟩) :
    (flatNd PL (ns ++ ⟨l, a, b, c, d⟩ :: rest)).set (ns.length * 16 + 12 + k) (.int .i64 x) = flatNd PL (ns ++ nd' :: rest) := by
  rw [flatNd_append, flatNd_append]
  have e := flatNd_len PL ns
  rw [List.set_append_right _ _ (by omega)]
  congr 1
  rw [show ns.length * 16 + 12 + k - (flatNd PL ns).length = 12 + k by omega, hnd]
  match k, hk with
  | 0, _ => simp [flatNd, Nd.nums, pair12]
  | 1, _ => simp [flatNd, Nd.nums, pair12]
  | 2, _ => simp [flatNd, Nd.nums, pair12]
  | 3, _ => simp [flatNd, Nd.nums, pair12]

end Go.Proofs.Ytoppcnkfgmbpfaa.Tr
