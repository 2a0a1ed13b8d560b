/- Trees: what a maker is, and what its steps leave. -/
import Derived.Test.YtoppcnkfgmbpfaaE37
namespace Go.Proofs.Ytoppcnkfgmbpfaa.Tr
open Go.RowKit Go.Proofs.Ytoppcnkfgmbpfaa Go.Proofs.Ytoppcnkfgmbpfaa.Wa Go.Proofs.Ytoppcnkfgmbpfaa.Ve Go.Proofs.Ytoppcnkfgmbpfaa.Au Go.Proofs.Ytoppcnkfgmbpfaa.Bx
set_option linter.unusedVariables false
set_option linter.unusedSimpArgs false

theorem own_in {w : World} {b n c : Nat} {e : TypeId} {v : Value} {xs : List Value} (h : w.ownsRow b e c v n xs) {q : Nat} (hq : v.ownBlock = some q) : b ≤ q ∧ ∃ cur, w.heap[q]? = some (.cells cur e (0, 0)) := by
  rcases h.2 with ⟨h1, _⟩ | ⟨g, cap, cur, h1, h2, h3, _⟩
  · rw [h1] at hq; cases hq
  · rw [h1] at hq
    have : g = q := by
      have e : some g = some q := hq
      injection e
    subst this
    exact ⟨h2, cur, h3⟩

theorem own_types_ne {w : World} {b n c b2 n2 c2 : Nat} {e e2 : TypeId} {v v2 : Value} {xs xs2 : List Value} (h : w.ownsRow b e c v n xs) (h2 : w.ownsRow b2 e2 c2 v2 n2 xs2) (hne : e ≠ e2) {q : Nat} (hq : v.ownBlock = some q) (hq2 : v2.ownBlock = some q) : False := by
  obtain ⟨_, cur, k1⟩ := own_in h hq
  obtain ⟨_, cur2, k2⟩ := own_in h2 hq2
  rw [k1] at k2
  simp only [Option.some.injEq, Obj.cells.injEq] at k2
  exact hne k2.2.1

/-- a maker: its nodes, its order, its pairs; nodes and order are its own -/
structure MkAt (base : Nat) (w : World) (mb : Nat) (ps : Value) (PL : Nat → Int) (ns : List Nd) (od : List Nat) (vn vo : Value) : Prop where
  blk : w.heap[mb]? = some (.cells #[vn, vo, ps] 58 (0, 0))
  rn : w.ownsRow base 45 16 vn ns.length (flatNd PL ns)
  ro : w.ownsRow base 3 1 vo od.length (nv od)

/-- what else there was stays as it was -/
structure Kept (base : Nat) (w w' : World) (mb : Nat) (vn vo vn' vo' : Value) : Prop where
  below : Below base w w'
  other : ∀ q, q < w.heap.size → q ≠ mb → vn.ownBlock ≠ some q → vo.ownBlock ≠ some q → w'.heap[q]? = w.heap[q]?
  gn : ∀ q, vn'.ownBlock = some q → vn.ownBlock = some q ∨ w.heap.size ≤ q
  go : ∀ q, vo'.ownBlock = some q → vo.ownBlock = some q ∨ w.heap.size ≤ q

theorem Kept.trans {base : Nat} {a b c : World} {mb : Nat} {v0 o0 v1 o1 v2 o2 : Value} (h : Kept base a b mb v0 o0 v1 o1) (k : Kept base b c mb v1 o1 v2 o2) : Kept base a c mb v0 o0 v2 o2 := by
  have hs := h.below.size
  refine ⟨h.below.trans k.below, fun q h1 h2 h3 h4 => ?_, fun q hq => ?_, fun q hq => ?_⟩
  · refine (k.other q (by omega) h2 (fun e => ?_) (fun e => ?_)).trans (h.other q h1 h2 h3 h4)
    · rcases h.gn q e with e | e
      · exact h3 e
      · omega
    · rcases h.go q e with e | e
      · exact h4 e
      · omega
  · rcases k.gn q hq with e | e
    · exact h.gn q e
    · exact Or.inr (by omega)
  · rcases k.go q hq with e | e
    · exact h.go q e
    · exact Or.inr (by omega)

theorem Kept.of {base : Nat} {w w' : World} {mb : Nat} {vn vo : Value} (hb : Below w.heap.size w w') (hs : base ≤ w.heap.size) : Kept base w w' mb vn vo vn vo :=
  ⟨hb.mono hs, fun q h1 _ _ _ => hb.block q h1, fun q h => Or.inl h, fun q h => Or.inl h⟩

theorem MkAt.on {base : Nat} {w w' : World} {mb : Nat} {ps vn vo : Value} {PL : Nat → Int} {ns : List Nd} {od : List Nat} (h : MkAt base w mb ps PL ns od vn vo) (hb : Below w.heap.size w w') : MkAt base w' mb ps PL ns od vn vo :=
  ⟨(hb.block mb (lt_heap h.blk)).trans h.blk, own_keep h.rn fun q hq => hb.block q (h.rn.lt q hq).2, own_keep h.ro fun q hq => hb.block q (h.ro.lt q hq).2⟩

theorem tne1 : (45 : TypeId) ≠ 58 := by decide
theorem tne2 : (3 : TypeId) ≠ 58 := by decide
theorem tne3 : (45 : TypeId) ≠ 3 := by decide

theorem own_ne_blk {w : World} {b n c mb : Nat} {e t : TypeId} {v : Value} {xs : List Value} {cs : Array Value} (h : w.ownsRow b e c v n xs) (hm : w.heap[mb]? = some (.cells cs t (0, 0))) (hne : e ≠ t) : v.ownBlock ≠ some mb := by
  intro hq
  obtain ⟨_, cur, k1⟩ := own_in h hq
  rw [k1] at hm
  simp only [Option.some.injEq, Obj.cells.injEq] at hm
  exact hne hm.2.1

theorem setCell_heap (w : World) (b i : Nat) (v : Value) (q : Nat) (h : q ≠ b) : (w.setCell ⟨b, i, none⟩ v).heap[q]? = w.heap[q]? := Below.heap_setCell _ _ _ _ h

/-- nodes are appended -/
theorem mk_nodes {base : Nat} {y y2 : World} {mb : Nat} {ps vn vo v2 : Value} {PL : Nat → Int} {ns : List Nd} {od : List Nat} {nd : Nd} (h : MkAt base y mb ps PL ns od vn vo) (hb : base ≤ mb) (hs : base ≤ y.heap.size)
    (ho : y2.ownsRow base 45 16 v2 (ns.length + 1) (flatNd PL ns ++ (nd.nums PL).map fun x => .int .i64 x)) (hg : y.grownBy y2 vn.ownBlock) (hat : ∀ q, v2.ownBlock = some q → vn.ownBlock = some q ∨ y.heap.size ≤ q) :
    y2.heap[mb]? = some (.cells #[vn, vo, ps] 58 (0, 0)) ∧ MkAt base (y2.setCell ⟨mb, 0, none⟩ v2) mb ps PL (ns ++ [nd]) od v2 vo ∧ Kept base y (y2.setCell ⟨mb, 0, none⟩ v2) mb vn vo v2 vo := by
  have hml := lt_heap h.blk
  have e0 : y2.heap[mb]? = some (.cells #[vn, vo, ps] 58 (0, 0)) := (hg.block mb hml (fun e => own_ne_blk h.rn h.blk tne1 e.symm)).trans h.blk
  refine ⟨e0, ⟨heap_setCell_same _ _ 0 _ _ _ e0, ?_, ?_⟩, ⟨?_, ?_, hat, fun q hq => Or.inl hq⟩⟩
  · rw [List.length_append, flatNd_append]
    exact own_keep (xs := flatNd PL ns ++ flatNd PL [nd]) (by simpa [flatNd] using ho) fun q hq => setCell_heap _ _ _ _ _ (fun e => own_ne_blk ho e0 tne1 (e ▸ hq))
  · refine own_keep h.ro fun q hq => ?_
    rw [setCell_heap _ _ _ _ _ (fun e => own_ne_blk h.ro h.blk tne2 (by rw [← e]; exact hq))]
    exact hg.block q (h.ro.lt q hq).2 (fun e => own_types_ne h.rn h.ro tne3 e.symm hq)
  · exact (Below.refl base y |>.grown hg hs (fun k hk => (h.rn.lt k hk).1)).setCell hb _
  · intro q h1 h2 h3 h4
    rw [setCell_heap _ _ _ _ _ h2]
    exact hg.block q h1 (fun e => h3 e.symm)

/-- shapes are appended to the order -/
theorem mk_order {base : Nat} {y y2 : World} {mb : Nat} {ps vn vo v2 : Value} {PL : Nat → Int} {ns : List Nd} {od l : List Nat} (h : MkAt base y mb ps PL ns od vn vo) (hb : base ≤ mb) (hs : base ≤ y.heap.size)
    (ho : y2.ownsRow base 3 1 v2 (od.length + l.length) (nv od ++ nv l)) (hg : y.grownBy y2 vo.ownBlock) (hat : ∀ q, v2.ownBlock = some q → vo.ownBlock = some q ∨ y.heap.size ≤ q) :
    y2.heap[mb]? = some (.cells #[vn, vo, ps] 58 (0, 0)) ∧ MkAt base (y2.setCell ⟨mb, 1, none⟩ v2) mb ps PL ns (od ++ l) vn v2 ∧ Kept base y (y2.setCell ⟨mb, 1, none⟩ v2) mb vn vo vn v2 := by
  have hml := lt_heap h.blk
  have e0 : y2.heap[mb]? = some (.cells #[vn, vo, ps] 58 (0, 0)) := (hg.block mb hml (fun e => own_ne_blk h.ro h.blk tne2 e.symm)).trans h.blk
  refine ⟨e0, ⟨heap_setCell_same _ _ 1 _ _ _ e0, ?_, ?_⟩, ⟨?_, ?_, fun q hq => Or.inl hq, hat⟩⟩
  · refine own_keep h.rn fun q hq => ?_
    rw [setCell_heap _ _ _ _ _ (fun e => own_ne_blk h.rn h.blk tne1 (by rw [← e]; exact hq))]
    exact hg.block q (h.rn.lt q hq).2 (fun e => own_types_ne h.rn h.ro tne3 hq e.symm)
  · rw [List.length_append]
    have e : nv (od ++ l) = nv od ++ nv l := by simp [nv]
    rw [e]
    exact own_keep ho fun q hq => setCell_heap _ _ _ _ _ (fun e => own_ne_blk ho e0 tne2 (e ▸ hq))
  · exact (Below.refl base y |>.grown hg hs (fun k hk => (h.ro.lt k hk).1)).setCell hb _
  · intro q h1 h2 h3 h4
    rw [setCell_heap _ _ _ _ _ h2]
    exact hg.block q h1 (fun e => h4 e.symm)

theorem nums_len (PL : Nat → Int) (n : Nd) : (n.nums PL).length = 16 := rfl

theorem set_flat (PL : Nat → Int) (ns rest : List Nd) (l : List Nat) (a b c d x y : Int) :
    ((flatNd PL (ns ++ ⟨l, a, b, c, d⟩ :: rest)).set (ns.length * 16 + 12) (.int .i64 x)).set (ns.length * 16 + 13) (.int .i64 y) = flatNd PL (ns ++ ⟨l, x, y, c, d⟩ :: rest) := by
  rw [flatNd_append, flatNd_append]
  have e := flatNd_len PL ns
  rw [List.set_append_right _ _ (by omega), List.set_append_right _ _ (by omega)]
  congr 1
  rw [show ns.length * 16 + 12 - (flatNd PL ns).length = 12 by omega, show ns.length * 16 + 13 - (flatNd PL ns).length = 13 by omega]
  simp [flatNd, Nd.nums, pair12]

/-- a node's two numbers are set -/
theorem mk_set {base : Nat} {y : World} {mb g cap : Nat} {ps vo : Value} {PL : Nat → Int} {ns rest : List Nd} {l od : List Nat} {a b c d : Int} {m : Nat} (x z : Int) (hm : m = (ns ++ ⟨l, a, b, c, d⟩ :: rest).length)
    (h : MkAt base y mb ps PL (ns ++ ⟨l, a, b, c, d⟩ :: rest) od (.slice (some ⟨g, 0, none⟩) m cap) vo) (hs : base ≤ y.heap.size) :
    MkAt base ((y.setCell ⟨g, ns.length * 16 + 12, none⟩ (.int .i64 x)).setCell ⟨g, ns.length * 16 + 13, none⟩ (.int .i64 z)) mb ps PL (ns ++ ⟨l, x, z, c, d⟩ :: rest) od (.slice (some ⟨g, 0, none⟩) m cap) vo ∧
      Kept base y ((y.setCell ⟨g, ns.length * 16 + 12, none⟩ (.int .i64 x)).setCell ⟨g, ns.length * 16 + 13, none⟩ (.int .i64 z)) mb (.slice (some ⟨g, 0, none⟩) m cap) vo (.slice (some ⟨g, 0, none⟩) m cap) vo := by
  subst hm
  have hgm : g ≠ mb := fun e => own_ne_blk h.rn h.blk tne1 (by rw [← e]; rfl)
  obtain ⟨hbg, -⟩ := own_in h.rn (q := g) rfl
  have hn := (((h.rn.stored (ns.length * 16 + 12) (.int .i64 x)).1).stored (ns.length * 16 + 13) (.int .i64 z)).1
  rw [set_flat] at hn
  have ho : ∀ q, q ≠ g → ((y.setCell ⟨g, ns.length * 16 + 12, none⟩ (.int .i64 x)).setCell ⟨g, ns.length * 16 + 13, none⟩ (.int .i64 z)).heap[q]? = y.heap[q]? := fun q hq => by
    rw [setCell_heap _ _ _ _ _ hq, setCell_heap _ _ _ _ _ hq]
  refine ⟨⟨(ho mb (Ne.symm hgm)).trans h.blk, ?_, own_keep h.ro fun q hq => ho q (fun e => own_types_ne h.rn h.ro tne3 (q := g) rfl (e ▸ hq))⟩, ⟨((Below.refl base y).setCell (by show base ≤ g; exact hbg) _).setCell (by show base ≤ g; exact hbg) _, fun q h1 h2 h3 h4 => ho q (fun e => h3 (by rw [e]; rfl)), fun q hq => Or.inl hq, fun q hq => Or.inl hq⟩⟩
  have e : (ns ++ ⟨l, x, z, c, d⟩ :: rest).length = (ns ++ ⟨l, a, b, c, d⟩ :: rest).length := by simp
  rw [e]
  exact hn

theorem news_row {w : World} {b : Nat} {cs : Array Value} {t : TypeId} (h : w.heap[b]? = some (.cells cs t (0, 0))) : ∀ j u, cs.toList[j]? = some u → w.cell? ((⟨b, 0, none⟩ : Addr).add j) = some u := by
  intro j u hj
  have e : (⟨b, 0, none⟩ : Addr).add j = ⟨b, j, none⟩ := by simp [Addr.add]; intro h; exact h.symm
  rw [e, cell_of_row _ _ j _ _ _ h]
  simpa using hj

end Go.Proofs.Ytoppcnkfgmbpfaa.Tr
