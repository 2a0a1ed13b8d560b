/- Jobs: a writer, and what its calls leave be: all rows but those of bytes, and what lies below its base. -/
import Derived.Test.YtcohehekkeeeoaaDoorRed
import Derived.Test.YtcohehekkeeeoaaDoorAu
import Derived.Test.YtcohehekkeeeoaaDoorLr
namespace Go.Proofs.YtcohehekkeeeoaaDoor.Jw
open Go.RowKit Go.Proofs.YtcohehekkeeeoaaDoor Go.Proofs.YtcohehekkeeeoaaDoor.Rp Go.Proofs.YtcohehekkeeeoaaDoor.Re Go.Proofs.YtcohehekkeeeoaaDoor.Au
set_option linter.unusedVariables false
set_option linter.unusedSimpArgs false

/-- a writer in block g, from the base B on: what it has laid -/
def WP (g B : Nat) (l : List UInt8) (w : World) : Prop :=
  g < w.heap.size ∧ B ≤ g ∧ (∀ j, w.frozen? ⟨g, j, none⟩ = false) ∧ ∃ v, w.cell? ⟨g, 0, none⟩ = some v ∧ w.ownsRow B 5 1 v l.length (vals l) ∧ ∀ q, v.ownBlock = some q → q ≠ g

/-- what its calls let be -/
def WS (g B : Nat) (w : World) (k : Nat) : Prop := k < w.heap.size ∧ k ≠ g ∧ (k < B ∨ ∃ cs t fr, w.heap[k]? = some (.cells cs t fr) ∧ t ≠ 5)

theorem own_lift {w : World} {v : Value} {n B : Nat} {xs : List Value} (h : w.ownsRow 0 5 1 v n xs) (hb : ∀ q, v.ownBlock = some q → B ≤ q) : w.ownsRow B 5 1 v n xs := by
  refine ⟨h.1, ?_⟩
  rcases h.2 with hn | ⟨q, cap, cur, rfl, h1, h2⟩
  · exact .inl hn
  · exact .inr ⟨q, cap, cur, rfl, hb q rfl, h2⟩

theorem own_drop {w : World} {v : Value} {n B : Nat} {xs : List Value} (h : w.ownsRow B 5 1 v n xs) : w.ownsRow 0 5 1 v n xs := by
  refine ⟨h.1, ?_⟩
  rcases h.2 with hn | ⟨q, cap, cur, rfl, h1, h2⟩
  · exact .inl hn
  · exact .inr ⟨q, cap, cur, rfl, Nat.zero_le _, h2⟩

theorem WP.use {g B : Nat} {l : List UInt8} {w : World} (h : WP g B l w) : WAt g (WS g B w) l w := by
  obtain ⟨h1, h2, h3, v, h4, h5, h6⟩ := h
  refine ⟨h1, fun k hk => hk.1, fun hk => hk.2.1 rfl, h3, v, h4, own_drop h5, fun q hq => ⟨fun hk => ?_, h6 q hq⟩⟩
  have hb := (h5.lt q hq).1
  rcases hk.2.2 with hk | ⟨cs, t, fr, hk, ht⟩
  · omega
  · rcases h5.2 with ⟨rfl, -⟩ | ⟨q', cap, cur, rfl, h7, h8, -⟩
    · simp [Value.ownBlock] at hq
    · simp [Value.ownBlock] at hq
      subst hq
      rw [h8] at hk
      simp at hk
      exact ht hk.2.1.symm

theorem WP.back {g B : Nat} {l : List UInt8} {w w' : World} (hB : B ≤ g) (hw : g < w.heap.size) (h : WAt g (WS g B w) l w') : WP g B l w' := by
  obtain ⟨h1, h2, h0, h3, v, h4, h5, h6⟩ := h
  refine ⟨h1, hB, h3, v, h4, own_lift h5 fun q hq => ?_, fun q hq => (h6 q hq).2⟩
  rcases Nat.lt_or_ge q B with hlt | hge
  · exact absurd ⟨by omega, (h6 q hq).2, .inl hlt⟩ (h6 q hq).1
  · exact hge

theorem aft_of_aw {g B : Nat} {w w' : World} (h : Aw (WS g B w) w w') : Aft g B w w' :=
  ⟨h.os, h.tape, h.output, h.size, fun k h1 h2 h3 => h.block k ⟨h2, h3, .inl h1⟩ h2, fun k cs t fr h1 h2 h3 => (h.block k ⟨lt_of_heap h3, h1, .inr ⟨cs, t, fr, h3, h2⟩⟩ (lt_of_heap h3)).trans h3⟩

theorem WP.new {g B : Nat} {l : List UInt8} {w w' : World} (h : WP g B l w) (hb : Below w.heap.size w w') : WP g B l w' := by
  obtain ⟨h1, h2, h3, v, h4, h5, h6⟩ := h
  exact ⟨Nat.lt_of_lt_of_le h1 hb.size, h2, fun j => (hb.frozen (p := ⟨g, j, none⟩) h1).trans (h3 j), v, (hb.cell (p := ⟨g, 0, none⟩) h1).trans h4, by
    refine ⟨h5.1, ?_⟩
    have hl := fun q hq => h5.lt q hq
    rcases h5.2 with hn | ⟨q, cap, cur, rfl, k1, k2, k3⟩
    · exact .inl hn
    · exact .inr ⟨q, cap, cur, rfl, k1, (hb.block q (hl q rfl).2).trans k2, k3⟩, h6⟩

theorem wp_drew {g B : Nat} {l : List UInt8} {w : World} (h : WP g B l w) : WP g B l w.drew := h.new (Below.refl _ w).drew

theorem WP.size {g B : Nat} {l : List UInt8} {w : World} (h : WP g B l w) : B ≤ g ∧ g < w.heap.size := ⟨h.2.1, h.1⟩

theorem lift {fn : FuncId} {args : Array Value} {g B : Nat} {l l' : List UInt8} {w : World} (hw : WP g B l w) (h : Calls Tryd.prog fn args w fun e w' => e = .returned (.tuple #[]) ∧ WAt g (WS g B w) l' w' ∧ Aw (WS g B w) w w') :
    Calls Tryd.prog fn args w fun e w' => e = .returned (.tuple #[]) ∧ WP g B l' w' ∧ Aft g B w w' :=
  h.mono fun e w' ⟨he, a, b⟩ => ⟨he, WP.back hw.2.1 hw.1 a, aft_of_aw b⟩

abbrev ivs (zs : List Int) : Array Value := (zs.map fun z => Value.int .i64 z).toArray

theorem ivs_at (zs : List Int) : ∀ j, j < zs.length → (ivs zs)[j]? = some (.int .i64 (zs.getD j 0)) := by
  intro j hj
  simp [ivs, List.getElem?_eq_getElem hj, List.getD]

theorem wints {g B b : Nat} {zs : List Int} {cs : Array Value} {t : TypeId} {w : World} (hr : w.heap[b]? = some (.cells cs t (0, 0))) (hc : cs = ivs zs) (ht : t ≠ 5) (hb : b ≠ g) : Ints (WS g B w) w (some ⟨b, 0, none⟩) zs := by
  subst hc
  exact Ints.cons zs hr ⟨lt_of_heap hr, hb, .inr ⟨_, _, _, hr, ht⟩⟩ (ivs_at zs)

/-- the bytes of some points -/
def vecsOf (L : Nat → Int) : Nat → List UInt8
  | 0 => []
  | k + 1 => vecsOf L k ++ numsOf 5 [L (k * 3), L (k * 3 + 1), L (k * 3 + 2)]

theorem vecsOf_length (L : Nat → Int) (k : Nat) : (vecsOf L k).length = k * 15 := by
  induction k with
  | zero => rfl
  | succ k ih => simp only [vecsOf, List.length_append, ih, numsOf_length]; simp; omega

end Go.Proofs.YtcohehekkeeeoaaDoor.Jw
