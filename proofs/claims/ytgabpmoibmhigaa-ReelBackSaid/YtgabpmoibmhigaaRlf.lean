/- Layer 7: what the walk of ReelLays keeps: a writer and the document's bytes, apart from one another. -/
import Derived.Test.YtgabpmoibmhigaaRla
import Derived.Test.YtgabpmoibmhigaaRld
import Derived.Test.YtgabpmoibmhigaaRle
import Derived.Test.YtgabpmoibmhigaaRcs
import Derived.Test.YtgabpmoibmhigaaLs
namespace Go.Proofs.Ytgabpmoibmhigaa.Re
open Go.RowKit Go.Proofs.Ytgabpmoibmhigaa Go.Proofs.Ytgabpmoibmhigaa.Rp
set_option linter.unusedVariables false

/-- a writer in block g that has laid lu; a row of its own, lv; both from block B on, and apart -/
def Pair (B g : Nat) (lu lv : List UInt8) (v : Value) (w : World) : Prop :=
  B ≤ g ∧ g < w.heap.size ∧ (∀ j, w.frozen? ⟨g, j, none⟩ = false) ∧ w.ownsRow 0 5 1 v lv.length (vals lv) ∧ (∀ q, v.ownBlock = some q → B ≤ q ∧ q ≠ g) ∧
    ∃ u, w.cell? ⟨g, 0, none⟩ = some u ∧ w.ownsRow 0 5 1 u lu.length (vals lu) ∧ (∀ q, u.ownBlock = some q → B ≤ q ∧ q ≠ g) ∧ ∀ q, u.ownBlock = some q → v.ownBlock ≠ some q

theorem Pair.on {B g : Nat} {lu lv : List UInt8} {v : Value} {w w' : World} (h : Pair B g lu lv v w) (hb : Below w.heap.size w w') : Pair B g lu lv v w' := by
  obtain ⟨h1, h2, h3, h4, h5, u, h6, h7, h8, h9⟩ := h
  exact ⟨h1, Nat.lt_of_lt_of_le h2 hb.size, fun j => (hb.frozen (p := ⟨g, j, none⟩) h2).trans (h3 j), own_heap h4 fun q hq => hb.block q (h4.lt q hq).2, h5, u, (hb.cell (p := ⟨g, 0, none⟩) h2).trans h6, own_heap h7 fun q hq => hb.block q (h7.lt q hq).2, h8, h9⟩

/-- what the writer's next value lets be: what was there, and the row -/
def SV (B : Nat) (v : Value) : Nat → Prop := fun k => k < B ∨ v.ownBlock = some k
theorem Pair.wat {B g : Nat} {lu lv : List UInt8} {v : Value} {w : World} (h : Pair B g lu lv v w) : WAt g (SV B v) lu w := by
  obtain ⟨h1, h2, h3, h4, h5, u, h6, h7, h8, h9⟩ := h
  refine ⟨h2, fun k hk => ?_, fun e => ?_, h3, u, h6, h7, fun q hq => ⟨fun e => ?_, (h8 q hq).2⟩⟩
  · rcases hk with hk | hk
    · omega
    · exact (h4.lt k hk).2
  · rcases e with e | e
    · omega
    · exact (h5 g e).2 rfl
  · rcases e with e | e
    · have := (h8 q hq).1; omega
    · exact h9 q hq e
theorem Pair.laid1 {B g : Nat} {lu lu' lv : List UInt8} {v : Value} {w w' : World} (h : Pair B g lu lv v w) (hw : WAt g (SV B v) lu' w') (ha : Aw (SV B v) w w') : Pair B g lu' lv v w' := by
  obtain ⟨h1, h2, h3, h4, h5, -⟩ := h
  obtain ⟨k1, k2, k0, k3, u, k4, k5, k6⟩ := hw
  refine ⟨h1, k1, k3, own_heap h4 fun q hq => ha.block q (.inr hq) (h4.lt q hq).2, h5, u, k4, k5, fun q hq => ⟨?_, (k6 q hq).2⟩, fun q hq e => (k6 q hq).1 (.inr e)⟩
  exact Nat.le_of_not_lt fun hlt => (k6 q hq).1 (.inl hlt)

/-- what the row's next value lets be: what was there, the writer, its row -/
def SU (B g : Nat) (w : World) : Nat → Prop := fun k => k < B ∨ k = g ∨ ∃ u, w.cell? ⟨g, 0, none⟩ = some u ∧ u.ownBlock = some k
theorem Pair.own {B g : Nat} {lu lv : List UInt8} {v : Value} {w : World} (h : Pair B g lu lv v w) : Own (SU B g w) v lv w := by
  obtain ⟨h1, h2, h3, h4, h5, u, h6, h7, h8, h9⟩ := h
  refine ⟨h4, fun q hq e => ?_⟩
  have := h5 q hq
  rcases e with e | e | ⟨u', e1, e2⟩
  · omega
  · omega
  · rw [h6] at e1; cases e1; exact h9 q e2 hq
theorem Pair.su_lt {B g : Nat} {lu lv : List UInt8} {v : Value} {w : World} (h : Pair B g lu lv v w) : ∀ k, SU B g w k → k < w.heap.size := by
  obtain ⟨h1, h2, h3, h4, h5, u, h6, h7, h8, h9⟩ := h
  intro k hk
  rcases hk with e | e | ⟨u', e1, e2⟩
  · omega
  · omega
  · rw [h6] at e1; cases e1; exact (h7.lt k e2).2
theorem Pair.laid2 {B g : Nat} {lu lv lv' : List UInt8} {v v' : Value} {w w' : World} (h : Pair B g lu lv v w) (hw : Own (SU B g w) v' lv' w') (ha : Aw (SU B g w) w w') : Pair B g lu lv' v' w' := by
  obtain ⟨h1, h2, h3, h4, h5, u, h6, h7, h8, h9⟩ := h
  refine ⟨h1, Nat.lt_of_lt_of_le h2 ha.size, fun j => (ha.frozen (p := ⟨g, j, none⟩) (.inr (.inl rfl)) h2).trans (h3 j), hw.1, fun q hq => ⟨?_, ?_⟩, u, (ha.cell (p := ⟨g, 0, none⟩) (.inr (.inl rfl)) h2).trans h6, own_heap h7 fun q hq => ha.block q (.inr (.inr ⟨u, h6, hq⟩)) (h7.lt q hq).2, h8, fun q hq e => ?_⟩
  · exact Nat.le_of_not_lt fun hlt => hw.2 q hq (.inl hlt)
  · intro e; exact hw.2 q hq (.inr (.inl e))
  · exact hw.2 q e (.inr (.inr ⟨u, h6, hq⟩))

theorem Pair.start (B : Nat) (w : World) (h : B ≤ w.heap.size) : Pair B w.heap.size [] [] (.slice none 0 0) (w.alloc (.cells #[.slice none 0 0] 74)) :=
  ⟨h, by simp, fun j => by go_simp, World.ownsRow_nil _ _ _ _, (fun q hq => by cases hq), .slice none 0 0, by go_simp, World.ownsRow_nil _ _ _ _, (fun q hq => by cases hq), (fun q hq => by cases hq)⟩

/-- the bytes of the first values -/
def encs (L : Nat → It) : Nat → List UInt8
  | 0 => []
  | k + 1 => encs L k ++ enc (L k)
theorem encs_length {L : Nat → It} {n : Nat} (h : ∀ k, k < n → ItOk (L k) ∧ (L k).p.length ≤ 3000) : ∀ k, k ≤ n → (encs L k).length ≤ k * 3004
  | 0, _ => by simp [encs]
  | k + 1, hk => by
    have h1 := encs_length h k (by omega)
    have h2 := enc_length (h k (by omega)).1 (h k (by omega)).2
    simp only [encs, List.length_append]
    omega

/-- bytes from block B on that may be written -/
def Scr (B : Nat) (a : Option Addr) (n : Nat) (w : World) : Prop :=
  n = 0 ∨ ∃ q, a = some ⟨q, 0, none⟩ ∧ B ≤ q ∧ (∀ j, j < n → ∃ z, w.cell? ⟨q, j, none⟩ = some (.int .u8 z)) ∧ ∀ j, w.frozen? ⟨q, j, none⟩ = false
theorem own_scr {B : Nat} {a : Option Addr} {n c : Nat} {l : List UInt8} {w : World} (h : w.ownsRow B 5 1 (.slice a n c) l.length (vals l)) : Scr B a n w := by
  rcases h.2 with ⟨hv, h0⟩ | ⟨q, cap, cur, hv, h1, -⟩
  · simp at hv; exact .inl hv.2.1
  · cases hv
    refine .inr ⟨q, rfl, h1, fun j hj => ?_, fun j => h.frozenAt j⟩
    have hc := h.cellAt j (by omega)
    refine ⟨(l[j].toNat : Int), hc.trans ?_⟩
    simp [vals, hj]
theorem Scr.put {B q n c : Nat} {w : World} (h : Scr B (some ⟨q, 0, none⟩) n w) (k : Nat) (hk : k < n) (x : Int) : Scr B (some ⟨q, 0, none⟩) n (w.setCell ⟨q, k, none⟩ (.int .u8 x)) := by
  rcases h with h | ⟨q', hq, h1, h2, h3⟩
  · exact .inl h
  · cases hq
    obtain ⟨z, hz⟩ := h2 k hk
    refine .inr ⟨q, rfl, h1, fun j hj => ?_, fun j => by rw [World.frozen?_setCell]; exact h3 j⟩
    rw [cset hz]
    by_cases e : j = k
    · rw [if_pos e]; exact ⟨_, rfl⟩
    · rw [if_neg e]; exact h2 j hj

theorem own_len {B : Nat} {a : Option Addr} {n c m : Nat} {e : TypeId} {size : Nat} {xs : List Value} {w : World} (h : w.ownsRow B e size (.slice a n c) m xs) : n = m := by
  rcases h.2 with ⟨hv, h0⟩ | ⟨q, cap, cur, hv, h1, -⟩
  · simp at hv; omega
  · cases hv; rfl

/-- what is written elsewhere, in block x and in what is new, leaves a writer as it was -/
theorem WAt.keep {g x : Nat} {S T : Nat → Prop} {l : List UInt8} {w w' : World} (h : WAt g S l w) (ha : Aw T w w') (hT : ∀ k, k < w.heap.size → k ≠ x → T k) (hx : S x) : WAt g S l w' := by
  obtain ⟨h1, h2, h0, h3, v, h4, h5, h6⟩ := h
  have hg : T g := hT g h1 (fun e => h0 (e ▸ hx))
  refine ⟨Nat.lt_of_lt_of_le h1 ha.size, fun k hk => Nat.lt_of_lt_of_le (h2 k hk) ha.size, h0, fun j => (ha.frozen (p := ⟨g, j, none⟩) hg h1).trans (h3 j), v, (ha.cell (p := ⟨g, 0, none⟩) hg h1).trans h4, own_heap h5 fun q hq => ?_, h6⟩
  exact ha.block q (hT q (h5.lt q hq).2 (fun e => (h6 q hq).1 (e ▸ hx))) (h5.lt q hq).2
theorem Own.keep {x : Nat} {S T : Nat → Prop} {v : Value} {l : List UInt8} {w w' : World} (h : Own S v l w) (ha : Aw T w w') (hT : ∀ k, k < w.heap.size → k ≠ x → T k) (hx : S x) : Own S v l w' :=
  ⟨own_heap h.1 fun q hq => ha.block q (hT q (h.1.lt q hq).2 (fun e => h.2 q hq (e ▸ hx))) (h.1.lt q hq).2, h.2⟩
/-- a writer that has laid nothing yet, whatever else there is -/
theorem wat_nil {g N : Nat} {w : World} (hg : g < w.heap.size) (hN : N ≤ w.heap.size) (hc : w.cell? ⟨g, 0, none⟩ = some (.slice none 0 0)) (hf : ∀ j, w.frozen? ⟨g, j, none⟩ = false) : WAt g (fun k => k < N ∧ k ≠ g) [] w :=
  ⟨hg, fun k hk => by omega, fun e => e.2 rfl, hf, _, hc, World.ownsRow_nil _ _ _ _, (fun q hq => by cases hq)⟩
/-- two writers made one behind the other -/
theorem two_new (w : World) : let w' := (w.alloc (.cells #[.slice none 0 0] 74)).alloc (.cells #[.slice none 0 0] 74)
    (w'.cell? ⟨w.heap.size, 0, none⟩ = some (.slice none 0 0) ∧ ∀ j, w'.frozen? ⟨w.heap.size, j, none⟩ = false) ∧ (w'.cell? ⟨w.heap.size + 1, 0, none⟩ = some (.slice none 0 0) ∧ ∀ j, w'.frozen? ⟨w.heap.size + 1, j, none⟩ = false) ∧ w'.heap.size = w.heap.size + 2 :=
  ⟨⟨by go_simp, fun j => by go_simp⟩, ⟨by go_simp, fun j => by go_simp⟩, by simp⟩
/-- a pair, with two writers beside it -/
theorem Pair.both {B g : Nat} {lu lv : List UInt8} {v : Value} {w w' : World} (h : Pair B g lu lv v w) (hb : Below w.heap.size w w') (hs : w.heap.size + 2 ≤ w'.heap.size) :
    WAt g (fun k => k = w.heap.size ∨ k = w.heap.size + 1) lu w' ∧ Own (fun k => k = w.heap.size ∨ k = w.heap.size + 1) v lv w' := by
  have h' := h.on hb
  obtain ⟨h1, h2, h3, h4, h5, u, h6, h7, h8, h9⟩ := h
  refine ⟨⟨Nat.lt_of_lt_of_le h2 hb.size, fun k hk => by omega, fun e => by omega, h'.2.2.1, u, (hb.cell (p := ⟨g, 0, none⟩) h2).trans h6, own_heap h7 fun q hq => hb.block q (h7.lt q hq).2, fun q hq => ⟨fun e => ?_, (h8 q hq).2⟩⟩, h'.2.2.2.1, fun q hq e => ?_⟩
  · have := (h7.lt q hq).2; omega
  · have := (h4.lt q hq).2; omega

/-- the numbers of a slice that came in, as a list of just as many -/
theorem row_list {w : World} {a : Option Addr} {len : Nat} {zs : List Int} (h : Ls.IsRow .i64 w a len zs) :
    ∃ ns : List Int, ns.length = len ∧ len ≤ 17592186044416 ∧ (ns = [] ∨ ∃ b off, a = some ⟨b, off, none⟩ ∧ b < w.heap.size ∧ ∀ j, j < ns.length → w.cell? ⟨b, off + j, none⟩ = some (.int .i64 (ns.getD j 0))) := by
  rcases h with rfl | ⟨b, off, rfl, hb, hl, hm, hc⟩
  · exact ⟨[], rfl, by omega, .inl rfl⟩
  · have hlen : (zs.take len).length = len := by rw [List.length_take]; omega
    refine ⟨zs.take len, hlen, by omega, .inr ⟨b, off, rfl, hb, fun j hj => ?_⟩⟩
    rw [hlen] at hj
    rw [hc j hj]
    have e1 : zs.getD j 0 = zs[j] := by simp [List.getD, show j < zs.length by omega]
    have e2 : (zs.take len).getD j 0 = zs[j] := by simp [List.getD, hj, show j < zs.length by omega]
    rw [e1, e2]
end Go.Proofs.Ytgabpmoibmhigaa.Re
