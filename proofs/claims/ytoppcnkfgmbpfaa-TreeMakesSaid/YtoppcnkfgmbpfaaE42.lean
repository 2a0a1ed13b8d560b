/- Trees, plainly: what grew holds: each shape once, each node but the first one another's, pairs in pairs. -/
import Derived.Test.YtoppcnkfgmbpfaaE41
namespace Go.Proofs.Ytoppcnkfgmbpfaa.Tr
open Go.RowKit Go.Proofs.Ytoppcnkfgmbpfaa Go.Proofs.Ytoppcnkfgmbpfaa.Wa Go.Proofs.Ytoppcnkfgmbpfaa.Ve Go.Proofs.Ytoppcnkfgmbpfaa.Au Go.Proofs.Ytoppcnkfgmbpfaa.Bx
set_option linter.unusedVariables false
set_option linter.unusedSimpArgs false

theorem fmin_all (a : Int) (l : Nat → Int) : ∀ n, foldN min a l n ≤ a ∧ ∀ j, j < n → foldN min a l n ≤ l j
  | 0 => ⟨Int.le_refl _, fun j h => absurd h (by omega)⟩
  | n + 1 => by
    have ih := fmin_all a l n
    have e : foldN min a l (n + 1) = min (foldN min a l n) (l n) := rfl
    rw [e]
    refine ⟨by omega, fun j hj => ?_⟩
    by_cases h : j = n
    · subst h; omega
    · have := ih.2 j (by omega); omega

theorem fmax_all (a : Int) (l : Nat → Int) : ∀ n, a ≤ foldN max a l n ∧ ∀ j, j < n → l j ≤ foldN max a l n
  | 0 => ⟨Int.le_refl _, fun j h => absurd h (by omega)⟩
  | n + 1 => by
    have ih := fmax_all a l n
    have e : foldN max a l (n + 1) = max (foldN max a l n) (l n) := rfl
    rw [e]
    refine ⟨by omega, fun j hj => ?_⟩
    by_cases h : j = n
    · subst h; omega
    · have := ih.2 j (by omega); omega

theorem fmin_some (a : Int) (l : Nat → Int) : ∀ n, foldN min a l n = a ∨ ∃ j, j < n ∧ foldN min a l n = l j
  | 0 => Or.inl rfl
  | n + 1 => by
    have e : foldN min a l (n + 1) = min (foldN min a l n) (l n) := rfl
    rw [e]
    by_cases h : foldN min a l n ≤ l n
    · rw [show min (foldN min a l n) (l n) = foldN min a l n by omega]
      rcases fmin_some a l n with h1 | ⟨j, h1, h2⟩
      · exact Or.inl h1
      · exact Or.inr ⟨j, by omega, h2⟩
    · exact Or.inr ⟨n, by omega, by omega⟩

theorem fmax_some (a : Int) (l : Nat → Int) : ∀ n, foldN max a l n = a ∨ ∃ j, j < n ∧ foldN max a l n = l j
  | 0 => Or.inl rfl
  | n + 1 => by
    have e : foldN max a l (n + 1) = max (foldN max a l n) (l n) := rfl
    rw [e]
    by_cases h : l n ≤ foldN max a l n
    · rw [show max (foldN max a l n) (l n) = foldN max a l n by omega]
      rcases fmax_some a l n with h1 | ⟨j, h1, h2⟩
      · exact Or.inl h1
      · exact Or.inr ⟨j, by omega, h2⟩
    · exact Or.inr ⟨n, by omega, by omega⟩

/-- number c of the pair of some shapes; the least ones, the greatest ones -/
def pc (PL : Nat → Int) (l : List Nat) (c : Nat) : Int := (pair12 PL l).getD c 0

def least (c : Nat) : Bool := c < 3 || (6 ≤ c && c < 9)

theorem pc_form (PL : Nat → Int) (l : List Nat) (c : Nat) (hc : c < 12) :
    pc PL l c = foldN (if least c then min else max) (PL (l.getD 0 0 * 12 + c)) (fun j => PL (l.getD j 0 * 12 + c)) l.length := by
  have ha : ∀ (f : Int → Int → Int) (i : Nat), i < 6 → foldN f (La (pl PL l) i) (fun j => La (pl PL l) (j * 6 + i)) l.length = foldN f (PL (l.getD 0 0 * 12 + i)) (fun j => PL (l.getD j 0 * 12 + i)) l.length := fun f i hi => by
    have e0 : La (pl PL l) i = PL (l.getD 0 0 * 12 + i) := by
      show pl PL l (i / 6 * 12 + i % 6) = _
      rw [show i / 6 * 12 + i % 6 = 0 * 12 + i by omega, pl_at PL l 0 i (by omega)]
    have e1 : (fun j => La (pl PL l) (j * 6 + i)) = (fun j => PL (l.getD j 0 * 12 + i)) := by
      funext j
      show pl PL l ((j * 6 + i) / 6 * 12 + (j * 6 + i) % 6) = _
      rw [show (j * 6 + i) / 6 * 12 + (j * 6 + i) % 6 = j * 12 + i by omega, pl_at PL l j i (by omega)]
    rw [e0, e1]
  have hb : ∀ (f : Int → Int → Int) (i : Nat), i < 6 → foldN f (Lb (pl PL l) i) (fun j => Lb (pl PL l) (j * 6 + i)) l.length = foldN f (PL (l.getD 0 0 * 12 + (6 + i))) (fun j => PL (l.getD j 0 * 12 + (6 + i))) l.length := fun f i hi => by
    have e0 : Lb (pl PL l) i = PL (l.getD 0 0 * 12 + (6 + i)) := by
      show pl PL l (i / 6 * 12 + 6 + i % 6) = _
      rw [show i / 6 * 12 + 6 + i % 6 = 0 * 12 + (6 + i) by omega, pl_at PL l 0 (6 + i) (by omega)]
    have e1 : (fun j => Lb (pl PL l) (j * 6 + i)) = (fun j => PL (l.getD j 0 * 12 + (6 + i))) := by
      funext j
      show pl PL l ((j * 6 + i) / 6 * 12 + 6 + (j * 6 + i) % 6) = _
      rw [show (j * 6 + i) / 6 * 12 + 6 + (j * 6 + i) % 6 = j * 12 + (6 + i) by omega, pl_at PL l j (6 + i) (by omega)]
    rw [e0, e1]
  match c, hc with
  | 0, _ => exact ha min 0 (by decide)
  | 1, _ => exact ha min 1 (by decide)
  | 2, _ => exact ha min 2 (by decide)
  | 3, _ => exact ha max 3 (by decide)
  | 4, _ => exact ha max 4 (by decide)
  | 5, _ => exact ha max 5 (by decide)
  | 6, _ => exact hb min 0 (by decide)
  | 7, _ => exact hb min 1 (by decide)
  | 8, _ => exact hb min 2 (by decide)
  | 9, _ => exact hb max 3 (by decide)
  | 10, _ => exact hb max 4 (by decide)
  | 11, _ => exact hb max 5 (by decide)

/-- one pair's numbers hold another's -/
def Hold (p q : Nat → Int) : Prop := ∀ c, c < 12 → if least c then p c ≤ q c else q c ≤ p c

theorem hold_one (PL : Nat → Int) (l : List Nat) (x : Nat) (hx : x ∈ l) : Hold (pc PL l) (fun c => PL (x * 12 + c)) := by
  intro c hc
  obtain ⟨j, hj, rfl⟩ := List.getElem_of_mem hx
  have e : l.getD j 0 = l[j] := getD_lt _ _ hj
  rw [pc_form PL l c hc]
  cases h : least c
  · simp only [Bool.false_eq_true, if_false]
    have := (fmax_all (PL (l.getD 0 0 * 12 + c)) (fun j => PL (l.getD j 0 * 12 + c)) l.length).2 j hj
    simp only [e] at this
    exact this
  · simp only [if_true]
    have := (fmin_all (PL (l.getD 0 0 * 12 + c)) (fun j => PL (l.getD j 0 * 12 + c)) l.length).2 j hj
    simp only [e] at this
    exact this

theorem pc_some (PL : Nat → Int) (l : List Nat) (h1 : 1 ≤ l.length) (c : Nat) (hc : c < 12) : ∃ x, x ∈ l ∧ pc PL l c = PL (x * 12 + c) := by
  have hm : ∀ j, j < l.length → l.getD j 0 ∈ l := fun j hj => by rw [getD_lt _ _ hj]; exact List.getElem_mem _
  rw [pc_form PL l c hc]
  cases h : least c
  · simp only [Bool.false_eq_true, if_false]
    rcases fmax_some (PL (l.getD 0 0 * 12 + c)) (fun j => PL (l.getD j 0 * 12 + c)) l.length with e | ⟨j, hj, e⟩
    · exact ⟨_, hm 0 (by omega), e⟩
    · exact ⟨_, hm j hj, e⟩
  · simp only [if_true]
    rcases fmin_some (PL (l.getD 0 0 * 12 + c)) (fun j => PL (l.getD j 0 * 12 + c)) l.length with e | ⟨j, hj, e⟩
    · exact ⟨_, hm 0 (by omega), e⟩
    · exact ⟨_, hm j hj, e⟩

theorem hold_sub (PL : Nat → Int) (l m : List Nat) (h1 : 1 ≤ m.length) (h : ∀ x, x ∈ m → x ∈ l) : Hold (pc PL l) (pc PL m) := by
  intro c hc
  obtain ⟨x, hx, e⟩ := pc_some PL m h1 c hc
  have := hold_one PL l x (h x hx) c hc
  rw [e]
  exact this

/-- what the law asks of one node -/
structure NodeOK (PL : Nat → Int) (NS : List Nd) (OD : List Nat) (N at_ : Nat) (next : Int) (n : Nd) : Prop where
  leafy : n.count = 0 ∨ (1 ≤ n.count ∧ n.count ≤ 4 ∧ n.first = next ∧ n.first = (n.first.toNat : Int) ∧ n.count = (n.count.toNat : Int) ∧ n.first.toNat + n.count.toNat ≤ OD.length ∧ (OD.drop n.first.toNat).take n.count.toNat = n.l ∧ (∀ x, x ∈ n.l → x < N))
  inner : n.count = 0 → ∃ L R : Nat, n.left = L ∧ n.right = R ∧ at_ < L ∧ L < R ∧ R < NS.length ∧ (∃ m, NS[L]? = some m ∧ Hold (pc PL n.l) (pc PL m.l)) ∧ (∃ m, NS[R]? = some m ∧ Hold (pc PL n.l) (pc PL m.l))

theorem perm_A {PL : Nat → Int} {l : List Nat} (h2 : 2 ≤ l.length) : (splitA PL l ++ splitB PL l).Perm l := (isCut PL l h2).perm

/-- the first node of what grew is about all -/
theorem grow_head (PL : Nat → Int) (f : Nat) (l : List Nat) (a o : Nat) (h1 : 1 ≤ l.length) (hf : l.length ≤ f) : ∃ n, (grow PL f l a o).1[0]? = some n ∧ n.l = l := by
  match f, hf with
  | 0, hf => omega
  | f + 1, hf =>
    unfold grow
    split
    · exact ⟨_, rfl, rfl⟩
    · exact ⟨_, rfl, rfl⟩

theorem grow_perm (PL : Nat → Int) : ∀ (f : Nat) (l : List Nat) (a o : Nat), 1 ≤ l.length → l.length ≤ f → (grow PL f l a o).2.Perm l
  | 0, l, a, o, h1, hf => by omega
  | f + 1, l, a, o, h1, hf => by
    by_cases h4 : l.length ≤ 4
    · rw [grow, if_pos h4]
    · rw [grow, if_neg h4]
      have hc := isCut PL l (by omega)
      have hs : (splitA PL l).length + (splitB PL l).length = l.length := hc.sum
      have ha : 1 ≤ (splitA PL l).length := hc.a1
      have hb : 1 ≤ (splitB PL l).length := hc.b1
      have p1 := grow_perm PL f (splitA PL l) (a + 1) o ha (by omega)
      have p2 := grow_perm PL f (splitB PL l) (a + 1 + (grow PL f (splitA PL l) (a + 1) o).1.length) (o + (grow PL f (splitA PL l) (a + 1) o).2.length) hb (by omega)
      exact (List.Perm.append p1 p2).trans (perm_A (by omega))

/-- one round of the law over nodes: whose nodes are named, which shapes are seen, where the next leaf begins -/
structure St where
  named : Nat → Int
  seen : Nat → Int
  next : Int

def up (f : Nat → Int) (t : Nat) : Nat → Int := fun k => if k = t then f k + 1 else f k

def ups (f : Nat → Int) (l : List Nat) : Nat → Int := l.foldl up f

def hround (s : St) (n : Nd) : St :=
  if 0 < n.count then ⟨s.named, ups s.seen n.l, s.next + n.count⟩
  else ⟨up (up s.named n.left.toNat) n.right.toNat, s.seen, s.next⟩

def hruns (s : St) (ns : List Nd) : St := ns.foldl hround s

theorem ups_count (l : List Nat) : ∀ (f : Nat → Int) (k : Nat), ups f l k = f k + (l.count k : Int) := by
  induction l with
  | nil => intro f k; simp [ups]
  | cons x l ih =>
    intro f k
    show ups (up f x) l k = _
    rw [ih]
    unfold up
    rw [List.count_cons]
    by_cases h : k = x
    · subst h; simp; omega
    · rw [if_neg h]; simp [Ne.symm h]

theorem hruns_append (s : St) (a b : List Nd) : hruns s (a ++ b) = hruns (hruns s a) b := by simp [hruns]

theorem hruns_seg (PL : Nat → Int) : ∀ (f : Nat) (l : List Nat) (a o : Nat) (s : St), 1 ≤ l.length → l.length ≤ f →
    (hruns s (grow PL f l a o).1).next = s.next + l.length ∧ (∀ k, (hruns s (grow PL f l a o).1).seen k = s.seen k + (l.count k : Int)) ∧
    ∀ k, (hruns s (grow PL f l a o).1).named k = s.named k + (if a < k ∧ k < a + (grow PL f l a o).1.length then 1 else 0)
  | 0, l, a, o, s, h1, hf => by omega
  | f + 1, l, a, o, s, h1, hf => by
    by_cases h4 : l.length ≤ 4
    · rw [grow, if_pos h4]
      show (hround s ⟨l, -1, -1, o, l.length⟩).next = _ ∧ (∀ k, (hround s ⟨l, -1, -1, o, l.length⟩).seen k = _) ∧ ∀ k, (hround s ⟨l, -1, -1, o, l.length⟩).named k = _
      unfold hround
      dsimp only
      rw [if_pos (by omega)]
      refine ⟨rfl, fun k => ups_count l s.seen k, fun k => ?_⟩
      rw [if_neg (by simp; omega)]
      simp
    · have hc := isCut PL l (by omega)
      have hs : (splitA PL l).length + (splitB PL l).length = l.length := hc.sum
      have ha : 1 ≤ (splitA PL l).length := hc.a1
      have hb : 1 ≤ (splitB PL l).length := hc.b1
      have hp := perm_A (PL := PL) (l := l) (by omega)
      rw [grow, if_neg h4]
      obtain ⟨A, hA⟩ : ∃ A, A = (grow PL f (splitA PL l) (a + 1) o).1 := ⟨_, rfl⟩
      obtain ⟨o2, ho2⟩ : ∃ o2, o2 = o + (grow PL f (splitA PL l) (a + 1) o).2.length := ⟨_, rfl⟩
      rw [← ho2, ← hA]
      obtain ⟨B, hB⟩ : ∃ B, B = (grow PL f (splitB PL l) (a + 1 + A.length) o2).1 := ⟨_, rfl⟩
      rw [← hB]
      have hA1 := (grow_len PL f (splitA PL l) (a + 1) o ha (by omega)).2.1
      have hB1 := (grow_len PL f (splitB PL l) (a + 1 + A.length) o2 hb (by omega)).2.1
      rw [← hA] at hA1
      rw [← hB] at hB1
      have e0 : hround s ⟨l, (a + 1 : Nat), (a + 1 + A.length : Nat), 0, 0⟩ = ⟨up (up s.named (a + 1)) (a + 1 + A.length), s.seen, s.next⟩ := by
        unfold hround
        dsimp only
        rw [if_neg (by omega)]
        simp only [Int.toNat_natCast]
      show (hruns (hround s ⟨l, (a + 1 : Nat), (a + 1 + A.length : Nat), 0, 0⟩) (A ++ B)).next = _ ∧ (∀ k, (hruns (hround s ⟨l, (a + 1 : Nat), (a + 1 + A.length : Nat), 0, 0⟩) (A ++ B)).seen k = _) ∧ ∀ k, (hruns (hround s ⟨l, (a + 1 : Nat), (a + 1 + A.length : Nat), 0, 0⟩) (A ++ B)).named k = _
      rw [e0, hruns_append]
      have i1 := hruns_seg PL f (splitA PL l) (a + 1) o ⟨up (up s.named (a + 1)) (a + 1 + A.length), s.seen, s.next⟩ ha (by omega)
      rw [← hA] at i1
      have i2 := hruns_seg PL f (splitB PL l) (a + 1 + A.length) o2 (hruns ⟨up (up s.named (a + 1)) (a + 1 + A.length), s.seen, s.next⟩ A) hb (by omega)
      rw [← hB] at i2
      refine ⟨?_, fun k => ?_, fun k => ?_⟩
      · rw [i2.1, i1.1]
        show s.next + _ + _ = _
        omega
      · rw [i2.2.1, i1.2.1]
        have := hp.count_eq k
        rw [List.count_append] at this
        show s.seen k + _ + _ = _
        omega
      · rw [i2.2.2, i1.2.2]
        simp only [List.length_cons, List.length_append]
        show up (up s.named (a + 1)) (a + 1 + A.length) k + _ + _ = _
        unfold up
        by_cases k1 : k = a + 1 + A.length
        · rw [if_pos k1, if_neg (by omega), if_neg (by omega), if_neg (by omega), if_pos (by omega)]
          omega
        · rw [if_neg k1]
          by_cases k2 : k = a + 1
          · rw [if_pos k2, if_neg (by omega), if_neg (by omega), if_pos (by omega)]
            omega
          · rw [if_neg k2]
            by_cases k3 : a + 1 < k ∧ k < a + 1 + A.length
            · rw [if_pos k3, if_neg (by omega), if_pos (by omega)]
              omega
            · rw [if_neg k3]
              by_cases k4 : a + 1 + A.length < k ∧ k < a + 1 + A.length + B.length
              · rw [if_pos k4, if_pos (by omega)]
                omega
              · rw [if_neg k4, if_neg (by omega)]
                omega

end Go.Proofs.Ytoppcnkfgmbpfaa.Tr
