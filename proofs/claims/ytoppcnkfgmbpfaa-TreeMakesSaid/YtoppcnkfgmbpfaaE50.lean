/- Trees, plainly: each node is as the law asks. -/
import Derived.Test.YtoppcnkfgmbpfaaE42
namespace Go.Proofs.Ytoppcnkfgmbpfaa.Tr
open Go.RowKit Go.Proofs.Ytoppcnkfgmbpfaa Go.Proofs.Ytoppcnkfgmbpfaa.Wa Go.Proofs.Ytoppcnkfgmbpfaa.Ve Go.Proofs.Ytoppcnkfgmbpfaa.Au Go.Proofs.Ytoppcnkfgmbpfaa.Bx
set_option linter.unusedVariables false
set_option linter.unusedSimpArgs false

def cnt : List Nd → Int
  | [] => 0
  | n :: ns => (if 0 < n.count then n.count else 0) + cnt ns

theorem cnt_append : ∀ (a b : List Nd), cnt (a ++ b) = cnt a + cnt b
  | [], b => by simp [cnt]
  | n :: a, b => by
    show _ + cnt (a ++ b) = _ + cnt a + cnt b
    rw [cnt_append a b]
    omega

theorem hruns_next : ∀ (ns : List Nd) (s : St), (hruns s ns).next = s.next + cnt ns
  | [], s => by simp [hruns, cnt]
  | n :: ns, s => by
    show (hruns (hround s n) ns).next = _
    rw [hruns_next ns, show cnt (n :: ns) = (if 0 < n.count then n.count else 0) + cnt ns from rfl]
    unfold hround
    split
    · show s.next + n.count + _ = _; omega
    · show s.next + _ = _; omega

theorem cnt_grow (PL : Nat → Int) (f : Nat) (l : List Nat) (a o : Nat) (h1 : 1 ≤ l.length) (hf : l.length ≤ f) : cnt (grow PL f l a o).1 = l.length := by
  have h := (hruns_seg PL f l a o ⟨fun _ => 0, fun _ => 0, 0⟩ h1 hf).1
  rw [hruns_next] at h
  simpa using h

theorem seg_at {α : Type} (pre seg post : List α) (k i : Nat) (hk : k = pre.length + i) (hi : i < seg.length) : (pre ++ seg ++ post)[k]? = seg[i]? := by
  subst hk
  rw [List.append_assoc, List.getElem?_append_right (by omega), show pre.length + i - pre.length = i by omega, List.getElem?_append_left hi]

theorem grow_ok (PL : Nat → Int) (N : Nat) : ∀ (f : Nat) (l : List Nat) (a o : Nat), 1 ≤ l.length → l.length ≤ f → (∀ x, x ∈ l → x < N) →
    ∀ (pre post : List Nd) (preO postO : List Nat), pre.length = a → preO.length = o → ∀ (i : Nat) (n : Nd), (grow PL f l a o).1[i]? = some n →
      NodeOK PL (pre ++ (grow PL f l a o).1 ++ post) (preO ++ (grow PL f l a o).2 ++ postO) N (a + i) ((o : Int) + cnt ((grow PL f l a o).1.take i)) n
  | 0, l, a, o, h1, hf, _, pre, post, preO, postO, _, _, i, n, _ => by omega
  | f + 1, l, a, o, h1, hf, hN, pre, post, preO, postO, hp, hpo, i, n, hn => by
    by_cases h4 : l.length ≤ 4
    · rw [grow, if_pos h4] at hn ⊢
      match i, hn with
      | 0, hn =>
        injection hn with hn
        subst hn
        refine ⟨Or.inr ⟨?_, ?_, ?_, ?_, ?_, ?_, ?_, hN⟩, fun h => ?_⟩
        · show (1 : Int) ≤ (l.length : Int); omega
        · show (l.length : Int) ≤ 4; omega
        · simp [cnt]
        · simp
        · simp
        · simp; omega
        · show (List.drop (Int.toNat (o : Int)) (preO ++ l ++ postO)).take (Int.toNat (l.length : Int)) = l
          simp only [Int.toNat_natCast]
          rw [List.append_assoc, ← hpo, List.drop_left, List.take_left]
        · exact absurd h (by show ¬ (l.length : Int) = 0; omega)
    · have hc := isCut PL l (by omega)
      have hs : (splitA PL l).length + (splitB PL l).length = l.length := hc.sum
      have ha : 1 ≤ (splitA PL l).length := hc.a1
      have hb : 1 ≤ (splitB PL l).length := hc.b1
      have hperm := perm_A (PL := PL) (l := l) (by omega)
      have hsA : ∀ x, x ∈ splitA PL l → x ∈ l := fun x hx => hperm.subset (List.mem_append_left _ hx)
      have hsB : ∀ x, x ∈ splitB PL l → x ∈ l := fun x hx => hperm.subset (List.mem_append_right _ hx)
      rw [grow, if_neg h4] at hn ⊢
      obtain ⟨o2, ho2⟩ : ∃ o2, o2 = o + (grow PL f (splitA PL l) (a + 1) o).2.length := ⟨_, rfl⟩
      have gA := grow_len PL f (splitA PL l) (a + 1) o ha (by omega)
      have cA := cnt_grow PL f (splitA PL l) (a + 1) o ha (by omega)
      have hdA := grow_head PL f (splitA PL l) (a + 1) o ha (by omega)
      have iA := grow_ok PL N f (splitA PL l) (a + 1) o ha (by omega) (fun x hx => hN x (hsA x hx))
      obtain ⟨A, hA⟩ : ∃ A, A = (grow PL f (splitA PL l) (a + 1) o).1 := ⟨_, rfl⟩
      obtain ⟨OA, hOA⟩ : ∃ A, A = (grow PL f (splitA PL l) (a + 1) o).2 := ⟨_, rfl⟩
      rw [← ho2, ← hA, ← hOA] at hn ⊢
      rw [← hA] at iA gA cA hdA
      rw [← hOA] at iA gA ho2
      have gB := grow_len PL f (splitB PL l) (a + 1 + A.length) o2 hb (by omega)
      have hdB := grow_head PL f (splitB PL l) (a + 1 + A.length) o2 hb (by omega)
      have iB := grow_ok PL N f (splitB PL l) (a + 1 + A.length) o2 hb (by omega) (fun x hx => hN x (hsB x hx))
      obtain ⟨B, hB⟩ : ∃ B, B = (grow PL f (splitB PL l) (a + 1 + A.length) o2).1 := ⟨_, rfl⟩
      obtain ⟨OB, hOB⟩ : ∃ B, B = (grow PL f (splitB PL l) (a + 1 + A.length) o2).2 := ⟨_, rfl⟩
      rw [← hB] at hn ⊢
      rw [← hOB]
      rw [← hB] at iB gB hdB
      rw [← hOB] at iB gB
      have eN1 : pre ++ (⟨l, (a + 1 : Nat), (a + 1 + A.length : Nat), 0, 0⟩ : Nd) :: (A ++ B) ++ post = (pre ++ [⟨l, (a + 1 : Nat), (a + 1 + A.length : Nat), 0, 0⟩]) ++ A ++ (B ++ post) := by simp
      have eN2 : pre ++ (⟨l, (a + 1 : Nat), (a + 1 + A.length : Nat), 0, 0⟩ : Nd) :: (A ++ B) ++ post = (pre ++ [⟨l, (a + 1 : Nat), (a + 1 + A.length : Nat), 0, 0⟩] ++ A) ++ B ++ post := by simp
      have eO1 : preO ++ (OA ++ OB) ++ postO = preO ++ OA ++ (OB ++ postO) := by simp
      have eO2 : preO ++ (OA ++ OB) ++ postO = (preO ++ OA) ++ OB ++ postO := by simp
      have hp1 : (pre ++ [(⟨l, (a + 1 : Nat), (a + 1 + A.length : Nat), 0, 0⟩ : Nd)]).length = a + 1 := by rw [List.length_append, hp]; rfl
      have hp2 : (pre ++ [(⟨l, (a + 1 : Nat), (a + 1 + A.length : Nat), 0, 0⟩ : Nd)] ++ A).length = a + 1 + A.length := by rw [List.length_append, hp1]
      have hpo2 : (preO ++ OA).length = o2 := by rw [List.length_append, hpo, ho2]
      match i, hn with
      | 0, hn =>
        have hn2 : n = ⟨l, (a + 1 : Nat), (a + 1 + A.length : Nat), 0, 0⟩ := by
          have : some _ = some n := hn
          injection this with this
          exact this.symm
        subst hn2
        refine ⟨Or.inl rfl, fun _ => ⟨a + 1, a + 1 + A.length, rfl, rfl, by omega, by omega, ?_, ?_, ?_⟩⟩
        · simp only [List.length_append, List.length_cons]
          omega
        · obtain ⟨m, hm, hml⟩ := hdA
          refine ⟨m, ?_, ?_⟩
          · rw [eN1, seg_at _ _ _ (a + 1) 0 (by rw [hp1]) (by omega)]
            exact hm
          · rw [hml]
            exact hold_sub PL l _ ha hsA
        · obtain ⟨m, hm, hml⟩ := hdB
          refine ⟨m, ?_, ?_⟩
          · rw [eN2, seg_at _ _ _ (a + 1 + A.length) 0 (by omega) (by omega)]
            exact hm
          · rw [hml]
            exact hold_sub PL l _ hb hsB
      | i + 1, hn =>
        have hn2 : (A ++ B)[i]? = some n := hn
        have hct : cnt (((⟨l, (a + 1 : Nat), (a + 1 + A.length : Nat), 0, 0⟩ : Nd) :: (A ++ B)).take (i + 1)) = cnt ((A ++ B).take i) := by
          show (if (0 : Int) < 0 then _ else (0 : Int)) + _ = _
          rw [if_neg (by omega)]
          omega
        rw [hct]
        by_cases hi : i < A.length
        · rw [List.getElem?_append_left hi] at hn2
          have h := iA (pre ++ [⟨l, (a + 1 : Nat), (a + 1 + A.length : Nat), 0, 0⟩]) (B ++ post) preO (OB ++ postO) hp1 hpo i n hn2
          rw [← eN1, ← eO1] at h
          rw [List.take_append_of_le_length (by omega), show a + (i + 1) = a + 1 + i by omega]
          exact h
        · rw [List.getElem?_append_right (by omega)] at hn2
          have h := iB (pre ++ [⟨l, (a + 1 : Nat), (a + 1 + A.length : Nat), 0, 0⟩] ++ A) post (preO ++ OA) postO hp2 hpo2 (i - A.length) n hn2
          rw [← eN2, ← eO2] at h
          have e1 : (A ++ B).take i = A ++ B.take (i - A.length) := by rw [List.take_append, List.take_of_length_le (by omega)]
          rw [e1, cnt_append, show a + (i + 1) = a + 1 + A.length + (i - A.length) by omega]
          have e2 : (o2 : Int) + cnt (B.take (i - A.length)) = (o : Int) + (cnt A + cnt (B.take (i - A.length))) := by rw [cA]; omega
          rw [← e2]
          exact h

theorem make_ok (PL : Nat → Int) (n : Nat) (h1 : 1 ≤ n) (i : Nat) (nd : Nd) (h : (grow PL n (List.range n) 0 0).1[i]? = some nd) :
    NodeOK PL (grow PL n (List.range n) 0 0).1 (grow PL n (List.range n) 0 0).2 n i (hruns ⟨fun _ => 0, fun _ => 0, 0⟩ ((grow PL n (List.range n) 0 0).1.take i)).next nd := by
  have := grow_ok PL n n (List.range n) 0 0 (by simpa using h1) (by simp) (fun x hx => by simpa using hx) [] [] [] [] rfl rfl i nd h
  rw [hruns_next]
  simpa using this

theorem make_end (PL : Nat → Int) (n : Nat) (h1 : 1 ≤ n) : (hruns ⟨fun _ => 0, fun _ => 0, 0⟩ (grow PL n (List.range n) 0 0).1).next = n ∧
    (∀ k, k < n → (hruns ⟨fun _ => 0, fun _ => 0, 0⟩ (grow PL n (List.range n) 0 0).1).seen k = 1) ∧
    (∀ k, k < (grow PL n (List.range n) 0 0).1.length → (hruns ⟨fun _ => 0, fun _ => 0, 0⟩ (grow PL n (List.range n) 0 0).1).named k = if k = 0 then 0 else 1) := by
  have h := hruns_seg PL n (List.range n) 0 0 ⟨fun _ => 0, fun _ => 0, 0⟩ (by simpa using h1) (by simp)
  refine ⟨by rw [h.1]; simp, fun k hk => ?_, fun k hk => ?_⟩
  · rw [h.2.1 k]
    have : (List.range n).count k = 1 := by
      rw [List.nodup_range.count]
      simp [hk]
    rw [this]
    rfl
  · rw [h.2.2 k]
    by_cases hk0 : k = 0
    · rw [if_pos hk0, if_neg (by omega)]; rfl
    · rw [if_neg hk0, if_pos (by omega)]; rfl

end Go.Proofs.Ytoppcnkfgmbpfaa.Tr
