/- A region whose order is drawn and that at last stores into what it has loaded: S (what the loads read) is owed behind each operation only till the store, number 'stop', comes up; a load that the store waits for may be taken ahead. -/
import Derived.Deep.RegionHeld
import Derived.WalkKit
namespace Go.Proofs.YtndpidmbfdpiaaaDoor.Ol
open Go

section
variable {P : Program} {md : Region.Mode} {ops : Array Oper} {Q : Exit → Act → World → Prop} {S : World → Prop} {stop : Nat}

/-- while the store has not come up S holds -/
def Till (S : World → Prop) (stop : Nat) (l : Array Bool) (w : World) : Prop := l.getD stop true = false → S w

/-- every order that is left comes to Q, and keeps S till the store -/
def Way (P : Program) (md : Region.Mode) (ops : Array Oper) (Q : Exit → Act → World → Prop) (S : World → Prop) (stop : Nat) : Nat → Array Bool → Act → World → Prop
  | 0, l, a, w => Region.ready md ops l = [] ∧ Q .normal a w
  | n + 1, l, a, w => (Region.ready md ops l = [] → Q .normal a w) ∧
    ∀ i ∈ Region.ready md ops l, wpOp P ops Q i (fun a' w' => Till S stop (l.setIfInBounds i true) w' ∧ Way P md ops Q S stop n (l.setIfInBounds i true) a' w') a w

theorem Way.any : ∀ {n : Nat} {l : Array Bool} {a : Act} {w : World}, Way P md ops Q S stop n l a w → wpAny P md ops Q n l a w
  | 0, _, _, _, h => h
  | _ + 1, _, _, _, h => ⟨h.1, fun i hi => wpOp_mono (fun _ _ h' => h'.2.any) (h.2 i hi)⟩

/-- which operation waits for which -/
def waits (md : Region.Mode) (ops : Array Oper) (j i : Nat) : Bool := match ops[j]? with
  | some o => o.after.any fun e => Region.binds md e && e.on == i
  | none => false

theorem till_off {i j : Nat} {l : Array Bool} {w : World} (hs : stop ≠ i) (hj : stop ≠ j) (h0 : l.getD stop true = false) (h : Till S stop ((l.setIfInBounds i true).setIfInBounds j true) w) : S w := by
  refine h ?_
  rw [getD_set_ne true (Ne.symm hj), getD_set_ne true (Ne.symm hs), h0]

/-- what is not yet listed and waits for nothing of i's: apart from i -/
abbrev Free (md : Region.Mode) (ops : Array Oper) (l : Array Bool) (i : Nat) (oi : Oper) : Prop :=
  ∀ j oj, ops[j]? = some oj → j ≠ i → l.getD j true = false → (∀ e ∈ oj.after, Region.binds md e = true → e.on ≠ i) → oi.apart ops oj = true

theorem Free.step {l : Array Bool} {i j : Nat} {oi : Oper} (h : Free md ops l i oi) (hj : l.getD j true = false) : Free md ops (l.setIfInBounds j true) i oi := fun k ok hk hki hun hno => by
  by_cases e : j = k
  · subst e; exact h j ok hk hki hj hno
  · exact h k ok hk hki (by rwa [getD_set_ne true e] at hun) hno

/-- what stands ready waits for nothing that is still to come -/
theorem ready_free {l : Array Bool} {i : Nat} {oj : Oper} (hi : l.getD i true = false) (hall : ∀ e ∈ oj.after, Region.binds md e = true → l.getD e.on false = true) : ∀ e ∈ oj.after, Region.binds md e = true → e.on ≠ i := fun e he hbd heq => by
  have h1 := hall e he hbd
  rw [heq] at h1
  rcases Nat.lt_or_ge i l.size with h | h
  · simp [Array.getD, h] at hi h1
    rw [hi] at h1
    cases h1
  · simp [Array.getD, Nat.not_lt.2 h] at hi

theorem waits_out {oj : Oper} {i : Nat} (hoj : ops[stop]? = some oj) (hw : waits md ops stop i = true) : ∃ e ∈ oj.after, Region.binds md e = true ∧ e.on = i := by
  unfold waits at hw
  rw [hoj] at hw
  obtain ⟨e, he, h⟩ := Array.any_eq_true'.1 hw
  simp only [Bool.and_eq_true, beq_iff_eq] at h
  exact ⟨e, he, h⟩

/-- a load that the store waits for may come first -/
theorem Way.first {i : Nat} {oi : Oper} {v : Value} (hi : ops[i]? = some oi) (hsel : ∀ (j : Nat) (o : Oper) cs b, ops[j]? = some o → o.op ≠ .select cs b) (hQ : ∀ c a w, Q (.panic c) (a.put oi.dst v) w → Q (.panic c) a w)
    (hne : stop ≠ i) (hw : waits md ops stop i = true) : ∀ (n : Nat) (l : Array Bool) (a : Act) (w : World), Free md ops l i oi → i ∈ Region.ready md ops l → l.getD stop true = false → YieldsIf P ops S oi v a → S w →
      Way P md ops Q S stop n (l.setIfInBounds i true) (a.put oi.dst v) w → Way P md ops Q S stop (n + 1) l a w := by
  intro n
  induction n with
  | zero =>
    intro l a w _ hr h0 hy hS H
    refine ⟨fun h => (by rw [h] at hr; cases hr), fun j hj => ?_⟩
    by_cases e : j = i
    · subst e; exact hy.wpOp hi hS ⟨fun _ => hS, H⟩
    · have := ready_mono hj e
      rw [H.1] at this
      cases this
  | succ n ih =>
    intro l a w hf hr h0 hy hS H
    refine ⟨fun h => (by rw [h] at hr; cases hr), fun j hj => ?_⟩
    by_cases e : j = i
    · subst e; exact hy.wpOp hi hS ⟨fun _ => hS, H⟩
    · obtain ⟨hun, oj, hoj, hall⟩ := mem_ready.1 hj
      have hno := ready_free (mem_ready.1 hr).1 hall
      have hjs : stop ≠ j := fun h => by
        subst h
        obtain ⟨x, hx, hb, hxi⟩ := waits_out hoj hw
        exact hno x hx hb hxi
      refine wpOp_mono (fun a' w' h3 => ?_) (wpOp_putIf hoj (hf j oj hoj e hun hno) (fun cs b => hsel i oi cs b hi) (fun cs b => hsel j oj cs b hoj) hQ hy (H.2 j (ready_mono hj e)))
      have hS' := till_off hne hjs h0 h3.2.1
      exact ⟨fun _ => hS', ih _ a' w' (hf.step hun) (ready_mono hr (Ne.symm e)) (by rw [getD_set_ne true (Ne.symm hjs)]; exact h0) h3.1 hS' (by rw [Array.setIfInBounds_comm _ _ e]; exact h3.2.2)⟩

theorem till_less {i j : Nat} {l : Array Bool} {w : World} (hs : stop ≠ i) (h : Till S stop ((l.setIfInBounds i true).setIfInBounds j true) w) : Till S stop (l.setIfInBounds j true) w := fun h0 => by
  by_cases e : stop = j
  · subst e
    rcases Nat.lt_or_ge stop l.size with h1 | h1
    · simp [Array.getD, h1] at h0
    · simp [Array.getD, Nat.not_lt.2 h1] at h0
  · rw [getD_set_ne true (Ne.symm e)] at h0
    exact h (by rw [getD_set_ne true (Ne.symm e), getD_set_ne true (Ne.symm hs)]; exact h0)

/-- what looks at no memory may come first -/
theorem Way.plain {i : Nat} {oi : Oper} {v : Value} (hi : ops[i]? = some oi) (hsel : ∀ (j : Nat) (o : Oper) cs b, ops[j]? = some o → o.op ≠ .select cs b) (hQ : ∀ c a w, Q (.panic c) (a.put oi.dst v) w → Q (.panic c) a w)
    (hne : stop ≠ i) : ∀ (n : Nat) (l : Array Bool) (a : Act) (w : World), Free md ops l i oi → i ∈ Region.ready md ops l → YieldsIf P ops (fun _ => True) oi v a → Till S stop l w →
      Way P md ops Q S stop n (l.setIfInBounds i true) (a.put oi.dst v) w → Way P md ops Q S stop (n + 1) l a w := by
  have hset : ∀ (l : Array Bool) (w : World), Till S stop l w → Till S stop (l.setIfInBounds i true) w := fun l w h h0 => h (by rw [getD_set_ne true (Ne.symm hne)] at h0; exact h0)
  intro n
  induction n with
  | zero =>
    intro l a w _ hr hy hT H
    refine ⟨fun h => (by rw [h] at hr; cases hr), fun j hj => ?_⟩
    by_cases e : j = i
    · subst e; exact hy.wpOp hi trivial ⟨hset _ _ hT, H⟩
    · have := ready_mono hj e
      rw [H.1] at this
      cases this
  | succ n ih =>
    intro l a w hf hr hy hT H
    refine ⟨fun h => (by rw [h] at hr; cases hr), fun j hj => ?_⟩
    by_cases e : j = i
    · subst e; exact hy.wpOp hi trivial ⟨hset _ _ hT, H⟩
    · obtain ⟨hun, oj, hoj, hall⟩ := mem_ready.1 hj
      have hno := ready_free (mem_ready.1 hr).1 hall
      refine wpOp_mono (fun a' w' h3 => ?_) (wpOp_putIf hoj (hf j oj hoj e hun hno) (fun cs b => hsel i oi cs b hi) (fun cs b => hsel j oj cs b hoj) hQ hy (H.2 j (ready_mono hj e)))
      have hT' := till_less hne h3.2.1
      exact ⟨hT', ih _ a' w' (hf.step hun) (ready_mono hr (Ne.symm e)) h3.1 hT' (by rw [Array.setIfInBounds_comm _ _ e]; exact h3.2.2)⟩

theorem way_take {i : Nat} {oi : Oper} {v : Value} {n : Nat} {l : Array Bool} {a : Act} {w : World} (hi : ops[i]? = some oi) (hs : Region.noSelect ops = true) (hf : Region.free md ops l i = true) (hr : (Region.ready md ops l).contains i = true)
    (hQ : ∀ c a w, Q (.panic c) (a.put oi.dst v) w → Q (.panic c) a w) (hne : stop ≠ i) (hw : waits md ops stop i = true) (h0 : l.getD stop true = false) (hy : YieldsIf P ops S oi v a) (hS : S w)
    (h : Way P md ops Q S stop n (l.setIfInBounds i true) (a.put oi.dst v) w) : Way P md ops Q S stop (n + 1) l a w :=
  Way.first hi (Region.noSelect_spec hs) hQ hne hw n l a w (Region.free_spec hi hf) (by simpa using hr) h0 hy hS h

theorem way_plain {i : Nat} {oi : Oper} {v : Value} {n : Nat} {l : Array Bool} {a : Act} {w : World} (hi : ops[i]? = some oi) (hs : Region.noSelect ops = true) (hf : Region.free md ops l i = true) (hr : (Region.ready md ops l).contains i = true)
    (hQ : ∀ c a w, Q (.panic c) (a.put oi.dst v) w → Q (.panic c) a w) (hne : stop ≠ i) (hy : YieldsIf P ops (fun _ => True) oi v a) (hT : Till S stop l w)
    (h : Way P md ops Q S stop n (l.setIfInBounds i true) (a.put oi.dst v) w) : Way P md ops Q S stop (n + 1) l a w :=
  Way.plain hi (Region.noSelect_spec hs) hQ hne n l a w (Region.free_spec hi hf) (by simpa using hr) hy hT h

def Each (P : Program) (md : Region.Mode) (ops : Array Oper) (Q : Exit → Act → World → Prop) (S : World → Prop) (stop n : Nat) (l : Array Bool) (a : Act) (w : World) (rs : List Nat) : Prop :=
  ∀ i ∈ rs, wpOp P ops Q i (fun a' w' => Till S stop (l.setIfInBounds i true) w' ∧ Way P md ops Q S stop n (l.setIfInBounds i true) a' w') a w

theorem Each.nil {n : Nat} {l : Array Bool} {a : Act} {w : World} : Each P md ops Q S stop n l a w [] := fun _ h => by cases h

theorem Each.cons {n : Nat} {l : Array Bool} {a : Act} {w : World} {i : Nat} {o : Oper} {rs : List Nat} (ho : ops[i]? = some o)
    (h : ∀ K' : Act → World → Prop, Shut (∀ a w, Till S stop (l.setIfInBounds i true) w → Way P md ops Q S stop n (l.setIfInBounds i true) a w → K' a w) → if Region.wanted o (yielded ops a.tmps) = true then Oper.wp P o a w K' Q else K' (a.put o.dst undef) w)
    (hs : Each P md ops Q S stop n l a w rs) : Each P md ops Q S stop n l a w (i :: rs) := fun j hj => by
  rcases List.mem_cons.1 hj with rfl | hj
  · exact wpOp_step ho (fun K' hK => h K' (fun a w hT hW => hK a w ⟨hT, hW⟩))
  · exact hs j hj

theorem way_ready {rs : List Nat} {n : Nat} {l : Array Bool} {a : Act} {w : World} (hr : Region.ready md ops l = rs) (hne : rs ≠ []) (h : Each P md ops Q S stop n l a w rs) : Way P md ops Q S stop (n + 1) l a w :=
  ⟨fun h0 => absurd (hr ▸ h0) hne, hr ▸ h⟩

theorem way_done {l : Array Bool} {a : Act} {w : World} (hr : Region.ready md ops l = []) (h : Q .normal a w) : ∀ n, Way P md ops Q S stop n l a w
  | 0 => ⟨hr, h⟩
  | _ + 1 => ⟨fun _ => h, by rw [hr]; simp⟩

theorem way_drew {id : Nat} {a : Act} {w : World} (hm : P.follows .mixedOrders = true) (hS : S w.drew) (h : S w.drew → Way P .any ops Q S stop ops.size (Array.replicate ops.size false) a w.drew) : (Code.region id ops true).wp P Q a w :=
  wp_region_any hm (h hS).any

theorem on {l : Array Bool} {w : World} (h : S w) : Till S stop l w := fun _ => h
theorem off {l : Array Bool} {w : World} (h : l.getD stop true = true) : Till S stop l w := fun h' => by rw [h] at h'; cases h'

theorem keep {n i : Nat} {l : Array Bool} {K : Act → World → Prop} (h : Shut (∀ a w, Till S stop (l.setIfInBounds i true) w → Way P md ops Q S stop n (l.setIfInBounds i true) a w → K a w)) (a : Act) (w : World) (hS : S w) (hW : S w → Way P md ops Q S stop n (l.setIfInBounds i true) a w) : K a w :=
  h.out a w (on hS) (hW hS)

theorem past {n i : Nat} {l : Array Bool} {K : Act → World → Prop} (h : Shut (∀ a w, Till S stop (l.setIfInBounds i true) w → Way P md ops Q S stop n (l.setIfInBounds i true) a w → K a w)) (hb : (l.setIfInBounds i true).getD stop true = true) (a : Act) (w : World) (hW : Way P md ops Q S stop n (l.setIfInBounds i true) a w) : K a w :=
  h.out a w (off hb) hW
end
end Go.Proofs.YtndpidmbfdpiaaaDoor.Ol
