/- Layer 7: bytes in memory; a writer, a reader in a block of its own; what the rest of the world is behind a call. -/
import Derived.Test.YtndpidmbfdpiaaaDoorK03
import Derived.Test.YtndpidmbfdpiaaaDoorChecked
import Derived.WalkKit
import Derived.OpenShut
import Derived.Lib.Hide
import Derived.Lib.SliceRun
import Derived.Laws.IdiomStrings
import Derived.Laws.BytesArg
import Derived.Deep.AppendLies
import Derived.Deep.MidRow
import Derived.Deep.WholeRow
namespace Go.Proofs.YtndpidmbfdpiaaaDoor.Re
open Go.RowKit Go.Proofs.YtndpidmbfdpiaaaDoor Go.Proofs.YtndpidmbfdpiaaaDoor.Rp

theorem u64_wrap (z : Int) : IntKind.u64.wrap z = ((u64 z : Nat) : Int) := by rw [IntKind.wrap_u64, u64_cast]

/-- some bytes' values -/
def vals (l : List UInt8) : List Value := l.map fun b => .int .u8 (b.toNat : Int)

theorem vals_length (l : List UInt8) : (vals l).length = l.length := by simp [vals]

theorem vals_append (p q : List UInt8) : vals (p ++ q) = vals p ++ vals q := by simp [vals]

theorem vals_one (l : List UInt8) : ∀ u ∈ vals l, u.oneCell' = true := by
  intro u hu
  simp only [vals, List.mem_map] at hu
  obtain ⟨b, -, rfl⟩ := hu
  rfl

/-- a slice of bytes: nil, or its bytes lie behind its address -/
def Bs (w : World) (v : Value) (l : List UInt8) : Prop :=
  (v = .slice none 0 0 ∧ l = []) ∨ ∃ ad cap, v = .slice (some ad) l.length cap ∧ ∀ j u, (vals l)[j]? = some u → w.cell? (ad.add j) = some u

/-- the world behind a call that writes block g, a row of bytes from base on, and what is new -/
structure Aft (g base : Nat) (w w' : World) : Prop where
  os : w'.os = w.os
  tape : w'.tape = w.tape
  output : w'.output = w.output
  size : w.heap.size ≤ w'.heap.size
  block : ∀ k, k < base → k < w.heap.size → k ≠ g → w'.heap[k]? = w.heap[k]?
  other : ∀ k cs t fr, k ≠ g → t ≠ 5 → w.heap[k]? = some (.cells cs t fr) → w'.heap[k]? = some (.cells cs t fr)

theorem lt_of_heap {w : World} {k : Nat} {o : Obj} (h : w.heap[k]? = some o) : k < w.heap.size := by
  rcases Nat.lt_or_ge k w.heap.size with hlt | hge
  · exact hlt
  · rw [Array.getElem?_eq_none hge] at h; cases h

theorem Aft.refl (g base : Nat) (w : World) : Aft g base w w := ⟨rfl, rfl, rfl, Nat.le_refl _, fun _ _ _ _ => rfl, fun _ _ _ _ _ _ h => h⟩

theorem Aft.trans {g base : Nat} {a b c : World} (h : Aft g base a b) (k : Aft g base b c) : Aft g base a c :=
  ⟨k.os.trans h.os, k.tape.trans h.tape, k.output.trans h.output, Nat.le_trans h.size k.size, fun i h1 h2 h3 => (k.block i h1 (Nat.lt_of_lt_of_le h2 h.size) h3).trans (h.block i h1 h2 h3), fun i cs t fr h1 h2 h3 => k.other i cs t fr h1 h2 (h.other i cs t fr h1 h2 h3)⟩

theorem Aft.of {g base : Nat} {w w' : World} (h : Below w.heap.size w w') : Aft g base w w' :=
  ⟨h.os, h.tape, h.output, h.size, fun k _ hk _ => h.block k hk, fun k _ _ _ _ _ hk => (h.block k (lt_of_heap hk)).trans hk⟩

theorem Aft.below {g base B : Nat} {w w' : World} (h : Aft g base w w') (hg : B ≤ g) (hb : B ≤ base) (hw : B ≤ w.heap.size) : Below B w w' :=
  ⟨h.os, h.tape, h.output, h.size, fun k hk => h.block k (by omega) (by omega) (by omega)⟩

theorem Aft.setCell {g base : Nat} {a w : World} (h : Aft g base a w) (j : Nat) (u : Value) : Aft g base a (w.setCell ⟨g, j, none⟩ u) :=
  ⟨h.os, h.tape, h.output, by simpa using h.size, fun k hk hw hn => by rw [Below.heap_setCell _ _ _ _ (by simpa using hn)]; exact h.block k hk hw hn,
    fun k cs t fr h1 h2 h3 => by rw [Below.heap_setCell _ _ _ _ (by simpa using h1)]; exact h.other k cs t fr h1 h2 h3⟩

theorem Aft.step {g base : Nat} {w w' : World} {n : Nat} {v : Value} {xs : List Value} (h : w.ownsRow base 5 1 v n xs) (hg : w.grownBy w' v.ownBlock) : Aft g base w w' := by
  refine ⟨hg.os, hg.tape, hg.output, hg.size, fun k h1 h2 _ => hg.block k h2 fun e => ?_, fun k cs t fr _ h2 h3 => (hg.block k (lt_of_heap h3) fun e => ?_).trans h3⟩
  · have := h.lt k e.symm; omega
  · rcases h.2 with ⟨rfl, -⟩ | ⟨q, cap, cur, rfl, -, h4, -⟩
    · cases e
    · simp [Value.ownBlock] at e
      subst e
      rw [h4] at h3
      simp at h3
      exact h2 h3.2.1.symm

theorem Aft.grown {g base : Nat} {a w w' : World} {n : Nat} {v : Value} {xs : List Value} (h : Aft g base a w) (ho : w.ownsRow base 5 1 v n xs) (hg : w.grownBy w' v.ownBlock) : Aft g base a w' := h.trans (Aft.step ho hg)

theorem Aft.alloc {g base : Nat} {a w : World} (h : Aft g base a w) (o : Obj) : Aft g base a (w.alloc o) :=
  h.trans (Aft.of ((Below.refl _ w).alloc (Nat.le_refl _) o))

theorem Aft.drew {g base : Nat} {a w : World} (h : Aft g base a w) : Aft g base a w.drew := ⟨h.os, h.tape, h.output, h.size, h.block, h.other⟩

theorem Aft.cell {g base : Nat} {w w' : World} (h : Aft g base w w') {p : Addr} (hp : p.block < base) (hw : p.block < w.heap.size) (hn : p.block ≠ g) : w'.cell? p = w.cell? p := World.cell?_of_block (w := w) (h.block p.block hp hw hn)

theorem Aft.frozen {g base : Nat} {w w' : World} (h : Aft g base w w') {p : Addr} (hp : p.block < base) (hw : p.block < w.heap.size) (hn : p.block ≠ g) : w'.frozen? p = w.frozen? p := World.frozen?_of_block (w := w) (h.block p.block hp hw hn)

theorem Aft.mono {g base b2 : Nat} {w w' : World} (h : Aft g base w w') (hb : b2 ≤ base) : Aft g b2 w w' := ⟨h.os, h.tape, h.output, h.size, fun k hk hw hn => h.block k (by omega) hw hn, h.other⟩

theorem ad_block (ad : Addr) (j : Nat) : (ad.add j).block = ad.block := by unfold Addr.add; split <;> rfl

/-- bytes that lie in a block that is kept stay -/
theorem Bs.on {w w' : World} {v : Value} {l : List UInt8} (h : Bs w v l) (hb : Below w.heap.size w w') : Bs w' v l := by
  rcases h with h | ⟨ad, cap, rfl, h⟩
  · exact .inl h
  · exact .inr ⟨ad, cap, rfl, fun j u hu => by
      have := h j u hu
      rw [hb.cell (World.block_lt_of_cell? w _ this)]; exact this⟩

theorem Bs.aft {g base : Nat} {w w' : World} {v : Value} {l : List UInt8} (h : Bs w v l) (ha : Aft g base w w') (hk : ∀ ad n c, v = .slice (some ad) n c → l ≠ [] → ad.block < base ∧ ad.block ≠ g) : Bs w' v l := by
  rcases h with h | ⟨ad, cap, rfl, h⟩
  · exact .inl h
  · exact .inr ⟨ad, cap, rfl, fun j u hu => by
      have := h j u hu
      obtain ⟨k1, k2⟩ := hk _ _ _ rfl (fun e => by subst e; simp [vals] at hu)
      rw [ha.cell (by rw [ad_block]; exact k1) (World.block_lt_of_cell? w _ this) (by rw [ad_block]; exact k2)]; exact this⟩

/-- the world behind a call that lets some blocks be -/
structure Aw (S : Nat → Prop) (w w' : World) : Prop where
  os : w'.os = w.os
  tape : w'.tape = w.tape
  output : w'.output = w.output
  size : w.heap.size ≤ w'.heap.size
  block : ∀ k, S k → k < w.heap.size → w'.heap[k]? = w.heap[k]?

theorem Aw.refl (S : Nat → Prop) (w : World) : Aw S w w := ⟨rfl, rfl, rfl, Nat.le_refl _, fun _ _ _ => rfl⟩

theorem Aw.trans {S : Nat → Prop} {a b c : World} (h : Aw S a b) (k : Aw S b c) : Aw S a c :=
  ⟨k.os.trans h.os, k.tape.trans h.tape, k.output.trans h.output, Nat.le_trans h.size k.size, fun i h1 h2 => (k.block i h1 (Nat.lt_of_lt_of_le h2 h.size)).trans (h.block i h1 h2)⟩

theorem Aw.of {S : Nat → Prop} {w w' : World} (h : Below w.heap.size w w') : Aw S w w' := ⟨h.os, h.tape, h.output, h.size, fun k _ hk => h.block k hk⟩

theorem Aw.alloc {S : Nat → Prop} {a w : World} (h : Aw S a w) (o : Obj) : Aw S a (w.alloc o) := h.trans (Aw.of ((Below.refl _ w).alloc (Nat.le_refl _) o))

theorem Aw.weak {S S' : Nat → Prop} {w w' : World} (h : Aw S' w w') (hs : ∀ k, S k → S' k) : Aw S w w' := ⟨h.os, h.tape, h.output, h.size, fun k hk hw => h.block k (hs k hk) hw⟩

theorem Aw.set {S : Nat → Prop} {a w : World} (h : Aw S a w) {b : Nat} (hb : ¬ S b) (j : Nat) (u : Value) : Aw S a (w.setCell ⟨b, j, none⟩ u) :=
  ⟨h.os, h.tape, h.output, by simpa using h.size, fun k hk hw => by
    rw [Below.heap_setCell _ _ _ _ (fun e => by have e' : k = b := e; subst e'; exact hb hk)]; exact h.block k hk hw⟩

theorem Aw.step {S : Nat → Prop} {a w w' : World} {row : Option Nat} (h : Aw S a w) (hg : w.grownBy w' row) (hr : ∀ q, row = some q → ¬ S q) : Aw S a w' :=
  h.trans ⟨hg.os, hg.tape, hg.output, hg.size, fun k hk hw => hg.block k hw fun e => hr k e.symm hk⟩

theorem Aw.below {S : Nat → Prop} {B : Nat} {w w' : World} (h : Aw S w w') (hs : ∀ k, k < B → S k) (hB : B ≤ w.heap.size) : Below B w w' :=
  ⟨h.os, h.tape, h.output, h.size, fun k hk => h.block k (hs k hk) (by omega)⟩

theorem Aw.cell {S : Nat → Prop} {w w' : World} (h : Aw S w w') {p : Addr} (hp : S p.block) (hw : p.block < w.heap.size) : w'.cell? p = w.cell? p := World.cell?_of_block (w := w) (h.block p.block hp hw)

theorem Aw.frozen {S : Nat → Prop} {w w' : World} (h : Aw S w w') {p : Addr} (hp : S p.block) (hw : p.block < w.heap.size) : w'.frozen? p = w.frozen? p := World.frozen?_of_block (w := w) (h.block p.block hp hw)

theorem Bs.aw {S : Nat → Prop} {w w' : World} {v : Value} {l : List UInt8} (h : Bs w v l) (ha : Aw S w w') (hk : ∀ ad n c, v = .slice (some ad) n c → l ≠ [] → S ad.block) : Bs w' v l := by
  rcases h with h | ⟨ad, cap, rfl, h⟩
  · exact .inl h
  · exact .inr ⟨ad, cap, rfl, fun j u hu => by
      have := h j u hu
      have k1 := hk _ _ _ rfl (fun e => by subst e; simp [vals] at hu)
      rw [ha.cell (by rw [ad_block]; exact k1) (World.block_lt_of_cell? w _ this)]; exact this⟩

/-- a row of bytes of its own, apart from what is let be -/
def Own (S : Nat → Prop) (v : Value) (l : List UInt8) (w : World) : Prop :=
  w.ownsRow 0 5 1 v l.length (vals l) ∧ ∀ q, v.ownBlock = some q → ¬ S q

theorem own_heap {w w' : World} {base : Nat} {v : Value} {n : Nat} {xs : List Value} (h : w.ownsRow base 5 1 v n xs) (hk : ∀ q, v.ownBlock = some q → w'.heap[q]? = w.heap[q]?) : w'.ownsRow base 5 1 v n xs := by
  refine ⟨h.1, ?_⟩
  rcases h.2 with hn | ⟨q, cap, cur, rfl, h1, h2, h3⟩
  · exact .inl hn
  · exact .inr ⟨q, cap, cur, rfl, h1, (hk q rfl).trans h2, h3⟩

/-- a writer in block g: what it has laid; its blocks are apart from what is let be -/
def WAt (g : Nat) (S : Nat → Prop) (l : List UInt8) (w : World) : Prop :=
  g < w.heap.size ∧ (∀ k, S k → k < w.heap.size) ∧ ¬ S g ∧ (∀ j, w.frozen? ⟨g, j, none⟩ = false) ∧ ∃ v, w.cell? ⟨g, 0, none⟩ = some v ∧ w.ownsRow 0 5 1 v l.length (vals l) ∧ ∀ q, v.ownBlock = some q → ¬ S q ∧ q ≠ g

theorem WAt.on {g : Nat} {S : Nat → Prop} {l : List UInt8} {w w' : World} (h : WAt g S l w) (hb : Below w.heap.size w w') : WAt g S l w' := by
  obtain ⟨h1, h2, h0, h3, v, h4, h5, h6⟩ := h
  refine ⟨Nat.lt_of_lt_of_le h1 hb.size, fun k hk => Nat.lt_of_lt_of_le (h2 k hk) hb.size, h0, fun j => ?_, v, ?_, own_heap h5 fun q hq => hb.block q (h5.lt q hq).2, h6⟩
  · rw [hb.frozen (by exact h1)]; exact h3 j
  · rw [hb.cell (by exact h1)]; exact h4

theorem WAt.weak {g : Nat} {S S' : Nat → Prop} {l : List UInt8} {w : World} (h : WAt g S' l w) (hs : ∀ k, S k → S' k) : WAt g S l w := by
  obtain ⟨h1, h2, h0, h3, v, h4, h5, h6⟩ := h
  exact ⟨h1, fun k hk => h2 k (hs k hk), fun e => h0 (hs g e), h3, v, h4, h5, fun q hq => ⟨fun e => (h6 q hq).1 (hs q e), (h6 q hq).2⟩⟩

/-- what is laid anew is let be, too -/
theorem WAt.push {g : Nat} {S : Nat → Prop} {l : List UInt8} {w : World} (h : WAt g S l w) (o : Obj) : WAt g (fun k => S k ∨ k = w.heap.size) l (w.alloc o) := by
  have hb : Below w.heap.size w (w.alloc o) := (Below.refl _ _).alloc (Nat.le_refl _) o
  obtain ⟨h1, h2, h0, h3, v, h4, h5, h6⟩ := h
  refine ⟨by simp; omega, fun k hk => ?_, fun e => ?_, fun j => ?_, v, ?_, own_heap h5 fun q hq => hb.block q (h5.lt q hq).2, fun q hq => ⟨fun e => ?_, (h6 q hq).2⟩⟩
  · rcases hk with hk | hk
    · have := h2 k hk; simp; omega
    · simp; omega
  · rcases e with e | e
    · exact h0 e
    · omega
  · rw [hb.frozen (by exact h1)]; exact h3 j
  · rw [hb.cell (by exact h1)]; exact h4
  · rcases e with e | e
    · exact (h6 q hq).1 e
    · have := (h5.lt q hq).2; omega

theorem set_self {w : World} {g : Nat} {v : Value} (h : w.cell? ⟨g, 0, none⟩ = some v) (u : Value) : (w.setCell ⟨g, 0, none⟩ u).cell? ⟨g, 0, none⟩ = some u := World.cell?_setCell_same _ _ _ h

/-- the writer's cell written anew -/
theorem WAt.made {g : Nat} {S : Nat → Prop} {l : List UInt8} {w : World} {u v : Value} (h1 : g < w.heap.size) (h2 : ∀ k, S k → k < w.heap.size) (h0 : ¬ S g) (h3 : ∀ j, w.frozen? ⟨g, j, none⟩ = false) (h4 : w.cell? ⟨g, 0, none⟩ = some u) (h5 : w.ownsRow 0 5 1 v l.length (vals l))
    (h6 : ∀ q, v.ownBlock = some q → ¬ S q ∧ q ≠ g) : WAt g S l (w.setCell ⟨g, 0, none⟩ v) :=
  ⟨by simpa using h1, fun k hk => by simpa using h2 k hk, h0, fun j => by rw [World.frozen?_setCell]; exact h3 j, v, set_self h4 v,
    own_heap h5 fun q hq => Below.heap_setCell _ _ _ _ (h6 q hq).2, h6⟩

/-- what is owned is a slice of bytes -/
theorem own_bs {base : Nat} {w : World} {v : Value} {l : List UInt8} (h : w.ownsRow base 5 1 v l.length (vals l)) : Bs w v l := by
  rcases h.2 with ⟨rfl, h0⟩ | ⟨q, cap, cur, rfl, -⟩
  · exact .inl ⟨rfl, List.eq_nil_of_length_eq_zero h0⟩
  · exact .inr ⟨_, _, rfl, h.cells (g := q) rfl⟩

theorem own_form {base : Nat} {w : World} {v : Value} {n : Nat} {xs : List Value} (h : w.ownsRow base 5 1 v n xs) : ∃ a cap, v = .slice a n cap := by
  rcases h.2 with ⟨rfl, h0⟩ | ⟨q, cap, cur, rfl, -⟩
  · exact ⟨none, 0, by rw [h0]⟩
  · exact ⟨_, _, rfl⟩

theorem conv_bs {w : World} {v : Value} {l : List UInt8} (h : Bs w v l) : (convert 22 9 v).run Tryd.prog w = .ok (.string ⟨l.toArray⟩) w := by
  rcases h with ⟨rfl, rfl⟩ | ⟨ad, cap, rfl, h⟩
  · exact run_convert_bytes_nil (P := Tryd.prog) w _ _ Tryd.underlying22 Tryd.underlying5 0 0 _ Tryd.underlying9
  · exact run_convert_bytes_back (P := Tryd.prog) w 22 9 5 ad cap l Tryd.underlying22 Tryd.underlying5 Tryd.underlying9 (fun j hj => h j _ (by simp [vals, hj]))

theorem bs_len {w : World} {a : Option Addr} {n c : Nat} {p : List UInt8} (h : Bs w (.slice a n c) p) : n = p.length := by
  rcases h with ⟨h, rfl⟩ | ⟨ad, cap, h, -⟩ <;> (simp at h; simp [h])

theorem infoByte : (Tryd.prog.info? 5).map (fun i => (i.zero, i.size, i.bytes)) = some (some (.int .u8 0), 1, 1) := by kernel_rfl

theorem below_n1 (w : World) (o : Obj) : Below w.heap.size w (w.alloc o) := (Below.refl _ _).alloc (Nat.le_refl _) o

theorem below_n2 (w : World) (o o2 : Obj) : Below w.heap.size w ((w.alloc o).alloc o2) := (below_n1 w o).alloc (by simp) o2

theorem old1 {w : World} {p : Addr} {v : Value} (o : Obj) (hv : w.cell? p = some v) : (w.alloc o).cell? p = some v := by
  rw [World.cell?_alloc_lt _ _ _ (World.block_lt_of_cell? w _ hv)]; exact hv

end Go.Proofs.YtndpidmbfdpiaaaDoor.Re
