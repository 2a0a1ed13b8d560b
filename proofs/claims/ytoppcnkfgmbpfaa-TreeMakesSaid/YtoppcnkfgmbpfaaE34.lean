/- Trees, plainly: how deep what grew is. -/
import Derived.Test.YtoppcnkfgmbpfaaE33
namespace Go.Proofs.Ytoppcnkfgmbpfaa.Tr
open Go.RowKit Go.Proofs.Ytoppcnkfgmbpfaa Go.Proofs.Ytoppcnkfgmbpfaa.Wa Go.Proofs.Ytoppcnkfgmbpfaa.Ve Go.Proofs.Ytoppcnkfgmbpfaa.Au Go.Proofs.Ytoppcnkfgmbpfaa.Bx
set_option linter.unusedVariables false
set_option linter.unusedSimpArgs false

def height (PL : Nat → Int) : Nat → List Nat → Int
  | 0, _ => 1
  | f + 1, l => if l.length ≤ 4 then 1 else max (height PL f (splitA PL l)) (height PL f (splitB PL l)) + 1

theorem height_pos (PL : Nat → Int) : ∀ f l, 1 ≤ height PL f l
  | 0, _ => by simp [height]
  | f + 1, l => by
    unfold height
    split
    · omega
    · have := height_pos PL f (splitA PL l)
      omega

/-- a node behind the number i is one deeper -/
def reach (len : Nat) (ab : Nat → Int) (i : Nat) (t : Int) (k : Nat) : Int := if (i : Int) < t ∧ t < len ∧ (k : Int) = t then ab i + 1 else ab k

def dround (len : Nat) (ab : Nat → Int) (i : Nat) (n : Nd) : Nat → Int := reach len (reach len ab i n.left) i n.right

def druns (len : Nat) : List Nd → Nat → Int → (Nat → Int) → Int × (Nat → Int)
  | [], _, d, ab => (d, ab)
  | n :: ns, i, d, ab => druns len ns (i + 1) (max d (ab i + 1)) (dround len ab i n)

theorem druns_append (len : Nat) : ∀ (a b : List Nd) (i : Nat) (d : Int) (ab : Nat → Int), druns len (a ++ b) i d ab = druns len b (i + a.length) (druns len a i d ab).1 (druns len a i d ab).2
  | [], b, i, d, ab => rfl
  | n :: a, b, i, d, ab => by
    show druns len (a ++ b) (i + 1) _ _ = _
    rw [druns_append len a b (i + 1)]
    show druns len b (i + 1 + a.length) _ _ = druns len b (i + (a.length + 1)) _ _
    rw [show i + 1 + a.length = i + (a.length + 1) by omega]
    rfl

theorem druns_seg (PL : Nat → Int) (len : Nat) : ∀ (f : Nat) (l : List Nat) (at_ od : Nat) (d : Int) (ab : Nat → Int), 1 ≤ l.length → l.length ≤ f → at_ + (grow PL f l at_ od).1.length ≤ len →
    (druns len (grow PL f l at_ od).1 at_ d ab).1 = max d (ab at_ + height PL f l) ∧ ∀ k, (k ≤ at_ ∨ at_ + (grow PL f l at_ od).1.length ≤ k) → (druns len (grow PL f l at_ od).1 at_ d ab).2 k = ab k
  | 0, l, at_, od, d, ab, h1, hf, hl => by omega
  | f + 1, l, at_, od, d, ab, h1, hf, hl => by
    by_cases h4 : l.length ≤ 4
    · rw [grow, if_pos h4, height, if_pos h4]
      refine ⟨rfl, fun k hk => ?_⟩
      show dround len ab at_ ⟨l, -1, -1, od, l.length⟩ k = ab k
      unfold dround reach
      dsimp only
      rw [if_neg (by omega), if_neg (by omega)]
    · have hc := isCut PL l (by omega)
      have hs : (splitA PL l).length + (splitB PL l).length = l.length := hc.sum
      have ha : 1 ≤ (splitA PL l).length := hc.a1
      have hb : 1 ≤ (splitB PL l).length := hc.b1
      rw [grow, if_neg h4] at hl ⊢
      rw [height, if_neg h4]
      obtain ⟨A, hA⟩ : ∃ A, A = (grow PL f (splitA PL l) (at_ + 1) od).1 := ⟨_, rfl⟩
      obtain ⟨o2, ho2⟩ : ∃ o2, o2 = od + (grow PL f (splitA PL l) (at_ + 1) od).2.length := ⟨_, rfl⟩
      rw [← ho2, ← hA] at hl ⊢
      obtain ⟨B, hB⟩ : ∃ B, B = (grow PL f (splitB PL l) (at_ + 1 + A.length) o2).1 := ⟨_, rfl⟩
      rw [← hB] at hl ⊢
      have hA1 := (grow_len PL f (splitA PL l) (at_ + 1) od ha (by omega)).2.1
      have hB1 := (grow_len PL f (splitB PL l) (at_ + 1 + A.length) o2 hb (by omega)).2.1
      rw [← hA] at hA1
      rw [← hB] at hB1
      simp only [List.length_cons, List.length_append] at hl
      have hab1 : ∀ k, dround len ab at_ ⟨l, (at_ + 1 : Nat), (at_ + 1 + A.length : Nat), 0, 0⟩ k = if k = at_ + 1 + A.length then ab at_ + 1 else if k = at_ + 1 then ab at_ + 1 else ab k := by
        intro k
        unfold dround reach
        dsimp only
        by_cases k1 : k = at_ + 1 + A.length
        · rw [if_pos k1, if_pos (by omega), if_neg (by omega)]
        · rw [if_neg k1, if_neg (by omega)]
          by_cases k2 : k = at_ + 1
          · rw [if_pos k2, if_pos (by omega)]
          · rw [if_neg k2, if_neg (by omega)]
      show (druns len (A ++ B) (at_ + 1) (max d (ab at_ + 1)) (dround len ab at_ ⟨l, (at_ + 1 : Nat), (at_ + 1 + A.length : Nat), 0, 0⟩)).1 = _ ∧ ∀ k, (k ≤ at_ ∨ at_ + (A ++ B).length + 1 ≤ k) → (druns len (A ++ B) (at_ + 1) (max d (ab at_ + 1)) (dround len ab at_ ⟨l, (at_ + 1 : Nat), (at_ + 1 + A.length : Nat), 0, 0⟩)).2 k = ab k
      obtain ⟨ab1, he⟩ : ∃ ab1, ab1 = dround len ab at_ ⟨l, (at_ + 1 : Nat), (at_ + 1 + A.length : Nat), 0, 0⟩ := ⟨_, rfl⟩
      rw [← he] at hab1 ⊢
      rw [druns_append]
      have i1 := druns_seg PL len f (splitA PL l) (at_ + 1) od (max d (ab at_ + 1)) ab1 ha (by omega) (by rw [← hA]; omega)
      rw [← hA] at i1
      have i2 := druns_seg PL len f (splitB PL l) (at_ + 1 + A.length) o2 (druns len A (at_ + 1) (max d (ab at_ + 1)) ab1).1 (druns len A (at_ + 1) (max d (ab at_ + 1)) ab1).2 hb (by omega) (by rw [← hB]; omega)
      rw [← hB] at i2
      have e1 : ab1 (at_ + 1) = ab at_ + 1 := by
        rw [hab1]
        split
        · rfl
        · rw [if_pos rfl]
      have e2 : (druns len A (at_ + 1) (max d (ab at_ + 1)) ab1).2 (at_ + 1 + A.length) = ab at_ + 1 := by rw [i1.2 _ (Or.inr (Nat.le_refl _)), hab1, if_pos rfl]
      have p1 := height_pos PL f (splitA PL l)
      have p2 := height_pos PL f (splitB PL l)
      refine ⟨?_, fun k hk => ?_⟩
      · rw [i2.1, e2, i1.1, e1]
        omega
      · rw [List.length_append] at hk
        rw [i2.2 k (by omega), i1.2 k (by omega), hab1, if_neg (by omega), if_neg (by omega)]

theorem reach_le (len : Nat) (ab : Nat → Int) (i : Nat) (t b : Int) (h : ∀ k, ab k ≤ b) (hi : ab i + 1 ≤ b) (k : Nat) : reach len ab i t k ≤ b := by
  unfold reach
  split
  · exact hi
  · exact h k

end Go.Proofs.Ytoppcnkfgmbpfaa.Tr
