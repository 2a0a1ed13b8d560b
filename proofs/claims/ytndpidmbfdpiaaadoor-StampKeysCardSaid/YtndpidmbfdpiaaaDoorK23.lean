/- Layer 25: rows of numbers that a call owns. -/
import Derived.Test.YtndpidmbfdpiaaaDoorK22
import Derived.Test.YtndpidmbfdpiaaaDoorK19
namespace Go.Proofs.YtndpidmbfdpiaaaDoor.Pn
open Go Go.RowKit Go.Proofs.YtndpidmbfdpiaaaDoor Go.Proofs.YtndpidmbfdpiaaaDoor.Au Go.Proofs.YtndpidmbfdpiaaaDoor.Re
set_option linter.unusedVariables false
set_option linter.unusedSimpArgs false

theorem infoN : (Tryd.prog.info? 3).map (fun i => (i.zero, i.size, i.bytes)) = some (some (.int .i64 0), 1, 8) := by kernel_rfl

/-- numbers, as values -/
def iv (l : List Int) : List Value := l.map fun x : Int => Value.int .i64 x
theorem iv_length (l : List Int) : (iv l).length = l.length := by simp [iv]
theorem iv_append (l m : List Int) : iv (l ++ m) = iv l ++ iv m := by simp [iv]
theorem iv_one (l : List Int) : ∀ u ∈ iv l, u.oneCell' = true := by
  intro u hu
  simp only [iv, List.mem_map] at hu
  obtain ⟨b, -, rfl⟩ := hu
  rfl
theorem iv_one1 (x : Int) (w : World) (B : Nat) (hB : B = w.heap.size) : ∀ j u, (iv [x])[j]? = some u → (w.alloc (.cells #[.int .i64 x] 3)).cell? ((⟨B, 0, none⟩ : Addr).add j) = some u := by
  subst hB
  intro j u hu
  match j, hu with
  | 0, hu => simp [iv] at hu; subst hu; simp [Addr.add]
  | j + 1, hu => simp [iv] at hu
theorem own_form {base : Nat} {w : World} {v : Value} {n : Nat} {xs : List Value} (h : w.ownsRow base 3 1 v n xs) : ∃ a cap, v = .slice a n cap := by
  rcases h.2 with ⟨rfl, h0⟩ | ⟨q, cap, cur, rfl, -⟩
  · exact ⟨none, 0, by rw [h0]⟩
  · exact ⟨_, cap, rfl⟩
theorem own_mono {base base' : Nat} {w : World} {v : Value} {n : Nat} {e : TypeId} {s : Nat} {xs : List Value} (h : w.ownsRow base' e s v n xs) (hb : base ≤ base') : w.ownsRow base e s v n xs := by
  refine ⟨h.1, ?_⟩
  rcases h.2 with hn | ⟨g, cap, cur, h1, h2, h3⟩
  · exact .inl hn
  · exact .inr ⟨g, cap, cur, h1, Nat.le_trans hb h2, h3⟩
theorem own_len {base : Nat} {w : World} {v : Value} {n : Nat} {l : List Int} (h : w.ownsRow base 3 1 v n (iv l)) : n = l.length := by
  have := h.1
  rw [iv_length, Nat.mul_one] at this
  exact this.symm
theorem own_cell {base : Nat} {w : World} {a : Option Addr} {n c : Nat} {l : List Int} (h : w.ownsRow base 3 1 (.slice a n c) n (iv l)) {j : Nat} (hj : j < n) : ∃ q, a = some ⟨q, 0, none⟩ ∧ base ≤ q ∧ q < w.heap.size ∧ w.cell? ⟨q, j, none⟩ = some (.int .i64 (l.getD j 0)) ∧ w.frozen? ⟨q, j, none⟩ = false := by
  have hl := own_len h
  rcases h.2 with ⟨h1, h2⟩ | ⟨q, cap, cur, h1, h2, h3, h4, h5, h6, h7⟩
  · omega
  · cases h1
    have hx : l[j]? = some (l.getD j 0) := by rw [List.getD_eq_getElem?_getD, List.getElem?_eq_getElem (by omega)]; rfl
    have hcur : cur[j]? = some (.int .i64 (l.getD j 0)) := by
      rw [Nat.mul_one] at h7
      have e := congrArg (fun l => l[j]?) h7
      simp only [List.getElem?_take, if_pos hj] at e
      have hv : (iv l)[j]? = some (.int .i64 (l.getD j 0)) := by unfold iv; rw [List.getElem?_map, hx]; rfl
      rw [hv] at e
      simpa using e
    exact ⟨q, rfl, h2, lt_heap h3, by simp [World.cell?, h3, hcur], by simp [World.frozen?, h3]⟩
/-- What is owned, as what lies. -/
theorem own_ro {base : Nat} {w : World} {v : Value} {n : Nat} {l : List Int} (h : w.ownsRow base 3 1 v n (iv l)) (hm : n ≤ 9223372036854775807) : Ro w v l := by
  obtain ⟨a, c, rfl⟩ := own_form h
  refine ⟨a, n, c, rfl, own_len h, ⟨hm, ?_⟩, ?_⟩
  · rcases h.2 with ⟨h1, h2⟩ | ⟨q, cap, cur, h1, h2, h3, h4, h5, h6, h7⟩
    · omega
    · cases h1; exact h4
  by_cases h0 : n = 0
  · exact .inl h0
  · obtain ⟨q, ha, _, hq, _, _⟩ := own_cell h (j := 0) (by omega)
    subst ha
    refine .inr ⟨q, 0, rfl, hq, fun j hj => ?_⟩
    obtain ⟨q', ha, _, _, hc, _⟩ := own_cell h hj
    cases ha
    rw [Nat.zero_add]
    exact hc
end Go.Proofs.YtndpidmbfdpiaaaDoor.Pn

/- Layer 25: the program's First; which rule of the names a plan breaks first. -/
namespace Go.Proofs.YtndpidmbfdpiaaaDoor.Pn
open Go Go.RowKit Go.Shelf Go.Proofs Go.Proofs.YtndpidmbfdpiaaaDoor Go.Proofs.YtndpidmbfdpiaaaDoor.Au Go.Proofs.YtndpidmbfdpiaaaDoor.Re
set_option linter.unusedVariables false
set_option linter.unusedSimpArgs false

def firstV (o : Option Nat) : Value := match o with | some n => .tuple #[.int .i64 n, .bool true] | none => .tuple #[.int .i64 0, .bool false]

set_option maxHeartbeats 2000000 in
set_option maxRecDepth 100000 in
theorem first_any (a : Option Addr) (c d n : Nat) (L : List (List Int)) (out : List Int) (T : TypeId) (w : World) (hn : n = L.length) (hP : PAt w a n L) (ho : Ok L out) (h : w.rowIs d T n (fun i => .bool (has out (i : Int)))) :
    Calls Tryd.prog 35 #[.slice a n c, .slice (some ⟨d, 0, none⟩) n n] w fun e w' => e = .returned (firstV (first L out)) ∧ Below w.heap.size w w' := by
  have HP := Lib.hid hP
  have HR := Lib.hid h
  have HN := Lib.hid hn
  have hnb := hP.2.1
  clear hP h hn
  go_enter Tryd.func35, Tryd.ntmps35
  go_wp2_with fail
  go_loopw [9] (fun v wr => ∃ i : Nat, i ≤ n ∧ v = .int .i64 i ∧ Hid (Below w.heap.size w wr) ∧ Hid (∀ j, j < i → may L out j = false)) (fun v _ => n - (intOf v).toNat)
  case atStart => exact ⟨0, by omega, rfl, Lib.hid (Below.refl _ _), Lib.hid (fun j hj => absurd hj (Nat.not_lt_zero _))⟩
  case round =>
    obtain ⟨i, hin, rfl, HB, HM⟩ := hrel
    by_cases hlt : i < n
    · have hlt' : (i : Int) < n := by omega
      have hcall : Calls Tryd.prog 42 #[.slice a n c, .int .i64 i, .slice (some ⟨d, 0, none⟩) n n] wr fun e w' => e = .returned (.bool (may L out i)) ∧ Below wr.heap.size wr w' := by
        have hn := HN.out
        subst hn
        exact may_any a c d L out T i wr (HP.out.on HB.out) hlt ho (HR.out.of_block (HB.out.block d HR.out.lt))
      cases hm : may L out i with
      | true =>
        have HF := Lib.hid (first_at (by rw [← HN.out]; exact hlt) hm HM.out)
        rw [hm] at hcall
        go_wp2_with (go_at_call 42; refine hcall.mono ?_; rintro e w1 ⟨rfl, hb1⟩)
        go_ret2
        rw [HF.out]
        exact ⟨rfl, HB.out.trans (hb1.mono HB.out.size)⟩
      | false =>
        have HM2 := Lib.hid (show ∀ j, j < i + 1 → may L out j = false from fun j hj => by
          by_cases e : j = i
          · subst e; exact hm
          · exact HM.out j (by omega))
        rw [hm] at hcall
        go_wp2_with (go_at_call 42; refine hcall.mono ?_; rintro e w1 ⟨rfl, hb1⟩)
        go_roundw
        case rel => exact ⟨i + 1, by omega, by go_num, Lib.hid (HB.out.trans (hb1.mono HB.out.size)), HM2⟩
        case measure => simp [intOf]; omega
    · have hge : ¬ (i : Int) < n := by omega
      have hF := Lib.hid (first_no (L := L) (out := out) (fun j hj => HM.out j (by have := HN.out; omega)))
      go_wp2_with fail
      go_ret2
      rw [hF.out]
      exact ⟨rfl, HB.out⟩

end Go.Proofs.YtndpidmbfdpiaaaDoor.Pn
