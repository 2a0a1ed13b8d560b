/- Layer 26 (stamp), plainly: the works of a job stand in an order in which they may be made. -/
import Derived.Test.YtndpidmbfdpiaaaDoorStf
import Derived.Test.YtndpidmbfdpiaaaDoorPnc
namespace Go.Proofs.YtndpidmbfdpiaaaDoor.St
open Go Go.RowKit Go.Proofs.YtndpidmbfdpiaaaDoor Go.Proofs.YtndpidmbfdpiaaaDoor.Pn
set_option linter.unusedVariables false

theorem row_zero {len : Nat} : ∀ (l seen : List Int), l.Nodup → (∀ m ∈ l, (0 ≤ m ∧ m < (len : Int)) ∧ m ∉ seen) → row len seen l = 0
  | [], _, _, _ => rfl
  | m :: l, seen, hn, h => by
    have hm := h m (List.mem_cons_self)
    have hn' := List.nodup_cons.1 hn
    unfold row
    rw [if_neg (by omega), if_neg (by rw [has_iff]; exact hm.2)]
    refine row_zero l _ hn'.2 fun x hx => ⟨(h x (List.mem_cons_of_mem _ hx)).1, fun hs => ?_⟩
    rcases List.mem_append.1 hs with hs | hs
    · exact (h x (List.mem_cons_of_mem _ hx)).2 hs
    · rw [List.mem_singleton] at hs
      subst hs
      exact hn'.1 hx
theorem rows_zero {len : Nat} : ∀ L : List (List Int), (∀ r ∈ L, row len [] r = 0) → rows len L = 0
  | [], _ => rfl
  | r :: L, h => by
    unfold rows
    rw [if_pos (h r (List.mem_cons_self))]
    exact rows_zero L fun r hr => h r (List.mem_cons_of_mem _ hr)
theorem need_nodup (m : Nat) : (needM m).Nodup := by
  unfold needM needL
  split
  · split
    · simp
    · simp; omega
  · first | (simp; done) | (simp; omega)
  · first | (simp; done) | (simp; omega)
  · first | (simp; done) | (simp; omega)
theorem has_upto (k : Nat) (m : Int) : has (upto k) m = (decide (0 ≤ m) && decide (m < (k : Int))) := by
  rw [Bool.eq_iff_iff, has_iff]
  simp only [upto, List.mem_map, List.mem_range, Bool.and_eq_true, decide_eq_true_eq]
  constructor
  · rintro ⟨i, hi, rfl⟩; omega
  · rintro ⟨h0, h1⟩; exact ⟨m.toNat, by omega, by omega⟩
theorem upto_succ (k : Nat) : upto (k + 1) = upto k ++ [(k : Int)] := by simp [upto, List.range_succ]
theorem upto_len (k : Nat) : (upto k).length = k := by simp [upto]
theorem ord_upto (N : Nat) : ∀ k, k ≤ N → ord (needsOf N) k = upto k
  | 0, _ => rfl
  | k + 1, hk => by
    have ih := ord_upto N k (by omega)
    have hf : first (needsOf N) (ord (needsOf N) k) = some k := by
      rw [ih]
      refine first_at (by rw [needsOf_len]; omega) ?_ fun j hj => ?_
      · unfold may
        rw [needsOf_at (by omega), has_upto]
        have h1 : (needM k).all (has (upto k)) = true := by
          refine List.all_eq_true.2 fun x hx => ?_
          have := need_lt k x hx
          rw [has_upto]
          simp; omega
        rw [h1]
        simp
      · unfold may
        rw [has_upto]
        have : (decide (0 ≤ (j : Int)) && decide ((j : Int) < (k : Int))) = true := by simp; omega
        rw [this]
        rfl
    rw [ord_next hf, ih, upto_succ]
theorem chk_works (N : Nat) (h : N ≤ 256) : chk (needsOf N) = 0 := by
  have h1 : named (needsOf N) = 0 := by
    unfold named
    rw [if_neg (by rw [needsOf_len]; omega), needsOf_len]
    refine rows_zero _ fun r hr => ?_
    obtain ⟨m, hm, rfl⟩ := List.mem_map.1 hr
    rw [List.mem_range] at hm
    exact row_zero _ _ (need_nodup m) fun x hx => ⟨by have := need_lt m x hx; omega, List.not_mem_nil⟩
  unfold chk
  rw [if_pos h1, needsOf_len, ord_upto N N (Nat.le_refl _), if_neg (by rw [upto_len]; omega)]
theorem ordL_works (N : Nat) (h : N ≤ 256) : ordL (needsOf N) = upto N := by
  unfold ordL
  rw [if_pos (chk_works N h), needsOf_len, ord_upto N N (Nat.le_refl _)]
end Go.Proofs.YtndpidmbfdpiaaaDoor.St
