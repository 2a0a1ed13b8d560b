/- Trees, plainly: how shapes are split, and what grows of them. -/
import Derived.Test.YtoppcnkfgmbpfaaE31
import Derived.Test.YtoppcnkfgmbpfaaE32
import Derived.Test.YtoppcnkfgmbpfaaE26
namespace Go.Proofs.Ytoppcnkfgmbpfaa.Tr
open Go.RowKit Go.Proofs.Ytoppcnkfgmbpfaa Go.Proofs.Ytoppcnkfgmbpfaa.Wa Go.Proofs.Ytoppcnkfgmbpfaa.Ve Go.Proofs.Ytoppcnkfgmbpfaa.Au Go.Proofs.Ytoppcnkfgmbpfaa.Bx
set_option linter.unusedVariables false
set_option linter.unusedSimpArgs false

/-- a shape's middle -/
def midN (PL : Nat → Int) (x i : Nat) : Int := Pl.lerp (min (PL (x * 12 + i)) (PL (x * 12 + (6 + i)))) (max (PL (x * 12 + (3 + i))) (PL (x * 12 + (9 + i)))) 32768

def mids (PL : Nat → Int) (l : List Nat) (j : Nat) : Int := midN PL (l.getD (j / 3) 0) (j % 3)

def lowM (PL : Nat → Int) (l : List Nat) (i : Nat) : Int := lo (mids PL l) i l.length
def wideM (PL : Nat → Int) (l : List Nat) (i : Nat) : Int := Pl.sub (hig (mids PL l) i l.length) (lo (mids PL l) i l.length)

/-- the widest axis -/
def axisN (PL : Nat → Int) (l : List Nat) : Nat := (widest (Pl.amount (wideM PL l 0)) (Pl.amount (wideM PL l 1)) (Pl.amount (wideM PL l 2))).toNat

/-- in which part the number k of some shapes lies -/
def partOf (PL : Nat → Int) (l : List Nat) (k : Nat) : Int := part (midN PL (l.getD k 0) (axisN PL l)) (lowM PL l (axisN PL l)) (wideM PL l (axisN PL l))

structure Cut where
  first : List Nat
  others : List Nat
  least : Int
  found : Bool

def cutStep (PL : Nat → Int) (l : List Nat) (pt : Nat → Int) (s : Cut) (cut : Int) : Cut :=
  if (sel pt cut l l.length).1.length = 0 ∨ (sel pt cut l l.length).2.length = 0 then s
  else if s.found = false ∨ costL PL (sel pt cut l l.length).1 + costL PL (sel pt cut l l.length).2 < s.least then
    ⟨(sel pt cut l l.length).1, (sel pt cut l l.length).2, costL PL (sel pt cut l l.length).1 + costL PL (sel pt cut l l.length).2, true⟩
  else s

def cutsN (PL : Nat → Int) (l : List Nat) (pt : Nat → Int) : Nat → Cut
  | 0 => ⟨l.take (l.length / 2), l.drop (l.length / 2), 0, false⟩
  | k + 1 => cutStep PL l pt (cutsN PL l pt k) ((k + 1 : Nat) : Int)

def splitA (PL : Nat → Int) (l : List Nat) : List Nat := (cutsN PL l (partOf PL l) 7).first
def splitB (PL : Nat → Int) (l : List Nat) : List Nat := (cutsN PL l (partOf PL l) 7).others

/-- a node: about which shapes it is, and its four numbers -/
structure Nd where
  l : List Nat
  left : Int
  right : Int
  first : Int
  count : Int

/-- the numbers of the pair of some shapes -/
def pair12 (PL : Nat → Int) (l : List Nat) : List Int := [lo6 (La (pl PL l)) 0 l.length, lo6 (La (pl PL l)) 1 l.length, lo6 (La (pl PL l)) 2 l.length, hi6 (La (pl PL l)) 0 l.length, hi6 (La (pl PL l)) 1 l.length, hi6 (La (pl PL l)) 2 l.length, lo6 (Lb (pl PL l)) 0 l.length, lo6 (Lb (pl PL l)) 1 l.length, lo6 (Lb (pl PL l)) 2 l.length, hi6 (Lb (pl PL l)) 0 l.length, hi6 (Lb (pl PL l)) 1 l.length, hi6 (Lb (pl PL l)) 2 l.length]

def Nd.nums (PL : Nat → Int) (n : Nd) : List Int := pair12 PL n.l ++ [n.left, n.right, n.first, n.count]

def flatNd (PL : Nat → Int) (ns : List Nd) : List Value := ns.flatMap fun n => (n.nums PL).map fun x => .int .i64 x

def grow (PL : Nat → Int) : Nat → List Nat → Nat → Nat → List Nd × List Nat
  | 0, _, _, _ => ([], [])
  | f + 1, l, at_, od =>
    if l.length ≤ 4 then ([⟨l, -1, -1, od, l.length⟩], l)
    else
      (⟨l, (at_ + 1 : Nat), (at_ + 1 + (grow PL f (splitA PL l) (at_ + 1) od).1.length : Nat), 0, 0⟩ :: ((grow PL f (splitA PL l) (at_ + 1) od).1 ++ (grow PL f (splitB PL l) (at_ + 1 + (grow PL f (splitA PL l) (at_ + 1) od).1.length) (od + (grow PL f (splitA PL l) (at_ + 1) od).2.length)).1),
        (grow PL f (splitA PL l) (at_ + 1) od).2 ++ (grow PL f (splitB PL l) (at_ + 1 + (grow PL f (splitA PL l) (at_ + 1) od).1.length) (od + (grow PL f (splitA PL l) (at_ + 1) od).2.length)).2)

theorem flatNd_len (PL : Nat → Int) (ns : List Nd) : (flatNd PL ns).length = ns.length * 16 := by
  induction ns with
  | nil => rfl
  | cons n ns ih =>
    unfold flatNd at *
    rw [List.flatMap_cons, List.length_append, ih]
    simp [Nd.nums, pair12]
    omega

theorem flatNd_append (PL : Nat → Int) (a b : List Nd) : flatNd PL (a ++ b) = flatNd PL a ++ flatNd PL b := by simp [flatNd]

theorem getD_lt (l : List Nat) (k : Nat) (h : k < l.length) : l.getD k 0 = l[k] := by simp [List.getD, List.getElem?_eq_getElem h]

theorem sel_sub (pt : Nat → Int) (cut : Int) (l : List Nat) : ∀ k, k ≤ l.length → (∀ x ∈ (sel pt cut l k).1, x ∈ l) ∧ (∀ x ∈ (sel pt cut l k).2, x ∈ l)
  | 0, _ => ⟨fun x h => by simp [sel] at h, fun x h => by simp [sel] at h⟩
  | k + 1, hk => by
    have ih := sel_sub pt cut l k (by omega)
    have hm : l.getD k 0 ∈ l := by
      rw [getD_lt _ _ (by omega)]
      exact List.getElem_mem _
    unfold sel
    split
    · refine ⟨fun x h => ?_, ih.2⟩
      rcases List.mem_append.mp h with h | h
      · exact ih.1 x h
      · rw [List.mem_singleton.mp h]; exact hm
    · refine ⟨ih.1, fun x h => ?_⟩
      rcases List.mem_append.mp h with h | h
      · exact ih.2 x h
      · rw [List.mem_singleton.mp h]; exact hm

/-- what a split is: both sides are some of the shapes, and have some -/
structure IsCut (l : List Nat) (s : Cut) : Prop where
  a1 : 1 ≤ s.first.length
  b1 : 1 ≤ s.others.length
  sum : s.first.length + s.others.length = l.length
  perm : (s.first ++ s.others).Perm l

theorem sel_perm (pt : Nat → Int) (cut : Int) (l : List Nat) : ∀ k, k ≤ l.length → ((sel pt cut l k).1 ++ (sel pt cut l k).2).Perm (l.take k)
  | 0, _ => by simp [sel]
  | k + 1, hk => by
    have ih := sel_perm pt cut l k (by omega)
    have hs : l.take (k + 1) = l.take k ++ [l.getD k 0] := by
      rw [List.take_add_one, getD_lt _ _ (by omega), List.getElem?_eq_getElem (by omega)]
      rfl
    rw [hs]
    unfold sel
    split
    · show ((sel pt cut l k).1 ++ [l.getD k 0] ++ (sel pt cut l k).2).Perm _
      rw [List.append_assoc]
      refine (List.Perm.append_left _ List.perm_append_comm).trans ?_
      rw [← List.append_assoc]
      exact ih.append_right _
    · show ((sel pt cut l k).1 ++ ((sel pt cut l k).2 ++ [l.getD k 0])).Perm _
      rw [← List.append_assoc]
      exact ih.append_right _

theorem isCut_n (PL : Nat → Int) (l : List Nat) (pt : Nat → Int) (h2 : 2 ≤ l.length) : ∀ k, IsCut l (cutsN PL l pt k)
  | 0 => ⟨by simp [cutsN]; omega, by simp [cutsN]; omega, by simp [cutsN]; omega, by simp [cutsN]⟩
  | k + 1 => by
    have ih := isCut_n PL l pt h2 k
    unfold cutsN cutStep
    split
    · exact ih
    · rename_i hne
      split
      · have := sel_len pt ((k + 1 : Nat) : Int) l l.length
        have hp := sel_perm pt ((k + 1 : Nat) : Int) l l.length (Nat.le_refl _)
        rw [List.take_length] at hp
        refine ⟨?_, ?_, this, hp⟩
        · show 1 ≤ (sel pt ((k + 1 : Nat) : Int) l l.length).1.length; omega
        · show 1 ≤ (sel pt ((k + 1 : Nat) : Int) l l.length).2.length; omega
      · exact ih

theorem isCut (PL : Nat → Int) (l : List Nat) (h2 : 2 ≤ l.length) : IsCut l (cutsN PL l (partOf PL l) 7) := isCut_n PL l _ h2 7

theorem grow_len (PL : Nat → Int) : ∀ (f : Nat) (l : List Nat) (a o : Nat), 1 ≤ l.length → l.length ≤ f → (grow PL f l a o).2.length = l.length ∧ 1 ≤ (grow PL f l a o).1.length ∧ (grow PL f l a o).1.length + 1 ≤ 2 * l.length
  | 0, l, a, o, h1, hf => by omega
  | f + 1, l, a, o, h1, hf => by
    unfold grow
    split
    · simp
      omega
    · have hc := isCut PL l (by omega)
      have hs := hc.sum
      have ha := hc.a1
      have hb := hc.b1
      have ga := grow_len PL f (splitA PL l) (a + 1) o hc.a1 (by show (cutsN PL l (partOf PL l) 7).first.length ≤ f; omega)
      have gb := grow_len PL f (splitB PL l) (a + 1 + (grow PL f (splitA PL l) (a + 1) o).1.length) (o + (grow PL f (splitA PL l) (a + 1) o).2.length) hc.b1 (by show (cutsN PL l (partOf PL l) 7).others.length ≤ f; omega)
      have e1 : (splitA PL l).length + (splitB PL l).length = l.length := hs
      simp only [List.length_append, List.length_cons]
      omega

end Go.Proofs.Ytoppcnkfgmbpfaa.Tr
