/- Layer 26 (stamp): the program's known, At, needs; slices.Clone. -/
import Derived.Test.YtndpidmbfdpiaaaDoorK20
import Derived.Test.YtndpidmbfdpiaaaDoorK25
import Derived.Test.YtndpidmbfdpiaaaDoorK26
import Derived.Lib.SliceRun
import Derived.Deep.AppendLies
import Derived.WalkKit
namespace Go.Proofs.YtndpidmbfdpiaaaDoor.St
open Go Go.RowKit Go.Proofs.YtndpidmbfdpiaaaDoor Go.Proofs.YtndpidmbfdpiaaaDoor.Au Go.Proofs.YtndpidmbfdpiaaaDoor.Re Go.Proofs.YtndpidmbfdpiaaaDoor.Pn
set_option linter.unusedVariables false
set_option linter.unusedSimpArgs false

/-- what a work of this kind, of this frame, needs -/
def needL (k f : Nat) : List Int := match k with
  | 1 => if f = 0 then [4 * (f : Int)] else [4 * (f : Int), 4 * (f : Int) - 4, 4 * (f : Int) - 3]
  | 2 => [4 * (f : Int), 4 * (f : Int) + 1]
  | 3 => [4 * (f : Int) + 2]
  | _ => []

theorem known_any (k : Nat) (w : World) (hk : k < 4) : Calls Tryd.prog 29 #[.int .i64 k] w fun e w' => e = .returned (.bool true) ∧ w = w' := by
  have d0 : decide (0 ≤ (k : Int)) = true := by simp
  have d1 : decide ((k : Int) < 4) = true := by simp; omega
  go_enter Tryd.func29, Tryd.ntmps29
  go_wp2_with fail
  go_ret
  first | exact ⟨rfl, rfl⟩ | exact ⟨by simp_all, rfl⟩

theorem at_any (k f : Nat) (w : World) (hk : k < 4) (hf : f < 32) : Calls Tryd.prog 18 #[.int .i64 k, .int .i64 f] w fun e w' => e = .returned (.int .i64 (4 * (f : Int) + k)) ∧ w = w' := by
  have hkn := known_any k w hk
  have d0 : decide ((f : Int) < 0) = false := by simp
  have d1 : decide ((32 : Int) ≤ (f : Int)) = false := by simp; omega
  have w1 : IntKind.i64.wrap (4 * (f : Int)) = 4 * (f : Int) := by rw [IntKind.wrap_i64]; omega
  have w2 : IntKind.i64.wrap (4 * (f : Int) + k) = 4 * (f : Int) + k := by rw [IntKind.wrap_i64]; omega
  go_enter Tryd.func18, Tryd.ntmps18
  go_wp2_with (go_at_call 29; refine hkn.mono ?_; rintro e ww ⟨rfl, rfl⟩)
  go_ret
  first | exact ⟨rfl, rfl⟩ | exact ⟨by simp_all, rfl⟩

theorem ro_one (x : Int) (w : World) : Ro (w.alloc (.cells #[.int .i64 x] 3)) (.slice (some ⟨w.heap.size, 0, none⟩) 1 1) [x] :=
  ⟨_, _, _, rfl, rfl, ⟨by omega, by omega⟩, .inr ⟨w.heap.size, 0, rfl, by simp, fun j hj => by
    have : j = 0 := by omega
    subst this
    simp⟩⟩
theorem ro_two (x y : Int) (w : World) : Ro (w.alloc (.cells #[.int .i64 x, .int .i64 y] 3)) (.slice (some ⟨w.heap.size, 0, none⟩) 2 2) [x, y] :=
  ⟨_, _, _, rfl, rfl, ⟨by omega, by omega⟩, .inr ⟨w.heap.size, 0, rfl, by simp, fun j hj => by
    match j, hj with
    | 0, _ => simp
    | 1, _ => simp
    | j + 2, h => omega⟩⟩
theorem ro_three (x y z : Int) (w : World) : Ro (w.alloc (.cells #[.int .i64 x, .int .i64 y, .int .i64 z] 3)) (.slice (some ⟨w.heap.size, 0, none⟩) 3 3) [x, y, z] :=
  ⟨_, _, _, rfl, rfl, ⟨by omega, by omega⟩, .inr ⟨w.heap.size, 0, rfl, by simp, fun j hj => by
    match j, hj with
    | 0, _ => simp
    | 1, _ => simp
    | 2, _ => simp
    | j + 3, h => omega⟩⟩
theorem ro_nil (w : World) : Ro w (.slice none 0 0) [] := ⟨_, _, _, rfl, rfl, ⟨by omega, by omega⟩, .inl rfl⟩

theorem at_k (k f : Nat) (K V : Int) (w : World) (hk : k < 4) (hf : f < 32) (eK : (k : Int) = K) (eV : 4 * (f : Int) + k = V) : Calls Tryd.prog 18 #[.int .i64 K, .int .i64 f] w fun e w' => e = .returned (.int .i64 V) ∧ w = w' := by
  subst eK eV
  exact at_any k f w hk hf

/-- what a call of needs answers -/
def NeedsAt (k : Int) (f : Nat) (L : List Int) : Prop := ∀ w : World, Calls Tryd.prog 30 #[.int .i64 k, .int .i64 f] w fun e w' => (∃ v, e = .returned v ∧ Ro w' v L ∧ (L = [] → v = .slice none 0 0) ∧ (∀ b off n c, v = .slice (some ⟨b, off, none⟩) n c → w.heap.size ≤ b)) ∧ Below w.heap.size w w'

set_option maxHeartbeats 2000000 in
set_option maxRecDepth 100000 in
theorem needs_0 (f : Nat) : NeedsAt 0 f [] := fun w => by
  go_enter Tryd.func30, Tryd.ntmps30
  go_wp2_with fail
  go_ret
  exact ⟨⟨_, rfl, ro_nil _, fun _ => rfl, fun b off n c e => by cases e⟩, Below.refl _ _⟩

set_option maxHeartbeats 2000000 in
set_option maxRecDepth 100000 in
theorem needs_3 (f : Nat) (hf : f < 32) : NeedsAt 3 f [4 * (f : Int) + 2] := fun w => by
  have a2 := fun w => at_k 2 f 2 (4 * (f : Int) + 2) w (by omega) hf rfl rfl
  go_enter Tryd.func30, Tryd.ntmps30
  go_wp2_with (go_at_call 18; with_reducible refine (a2 _).mono ?_; rintro e ww ⟨rfl, rfl⟩)
  go_ret
  exact ⟨⟨_, rfl, ro_one _ _, (fun h => by cases h), (fun b off n c e => by cases e; exact Nat.le_refl _)⟩, Ve.below_n1 _ _⟩

set_option maxHeartbeats 2000000 in
set_option maxRecDepth 100000 in
theorem needs_2 (f : Nat) (hf : f < 32) : NeedsAt 2 f [4 * (f : Int), 4 * (f : Int) + 1] := fun w => by
  have a0 := fun w => at_k 0 f 0 (4 * (f : Int)) w (by omega) hf rfl (by simp)
  have a1 := fun w => at_k 1 f 1 (4 * (f : Int) + 1) w (by omega) hf rfl rfl
  go_enter Tryd.func30, Tryd.ntmps30
  go_wp2_with (first
    | (go_at_call 18; with_reducible refine (a0 _).mono ?_; rintro e ww ⟨rfl, rfl⟩)
    | (go_at_call 18; with_reducible refine (a1 _).mono ?_; rintro e ww ⟨rfl, rfl⟩))
  go_ret
  exact ⟨⟨_, rfl, ro_two _ _ _, (fun h => by cases h), (fun b off n c e => by cases e; exact Nat.le_refl _)⟩, Ve.below_n1 _ _⟩

set_option maxHeartbeats 2000000 in
set_option maxRecDepth 100000 in
theorem needs_10 : NeedsAt 1 0 [0] := fun w => by
  have a0 := fun w => at_k 0 0 0 0 w (by omega) (by omega) rfl (by simp)
  show Calls _ _ #[.int .i64 1, .int .i64 0] w _
  go_enter Tryd.func30, Tryd.ntmps30
  go_wp2_with (go_at_call 18; refine (a0 _).mono ?_; rintro e ww ⟨rfl, rfl⟩)
  go_ret
  exact ⟨⟨_, rfl, ro_one _ _, (fun h => by cases h), (fun b off n c e => by cases e; exact Nat.le_refl _)⟩, Ve.below_n1 _ _⟩

set_option maxHeartbeats 2000000 in
set_option maxRecDepth 100000 in
theorem needs_1 (f : Nat) (hf : f < 32) (h0 : ¬ f = 0) : NeedsAt 1 f [4 * (f : Int), 4 * (f : Int) - 4, 4 * (f : Int) - 3] := fun w => by
  have hf0 : ¬ (f : Int) = 0 := by omega
  obtain ⟨g, hg⟩ : ∃ g : Nat, f = g + 1 := ⟨f - 1, by omega⟩
  have e1 : (f : Int) - 1 = (g : Int) := by omega
  have w1 : IntKind.i64.wrap ((f : Int) - 1) = (g : Int) := by rw [IntKind.wrap_i64]; omega
  have a0 := fun w => at_k 0 f 0 (4 * (f : Int)) w (by omega) hf rfl (by simp)
  have b0 := fun w => at_k 0 g 0 (4 * (f : Int) - 4) w (by omega) (by omega) rfl (by omega)
  have b1 := fun w => at_k 1 g 1 (4 * (f : Int) - 3) w (by omega) (by omega) rfl (by omega)
  clear hg
  go_enter Tryd.func30, Tryd.ntmps30
  go_wp2_with (first
    | (go_at_call 18; with_reducible refine (a0 _).mono ?_; rintro e ww ⟨rfl, rfl⟩)
    | (go_at_call 18; with_reducible refine (b0 _).mono ?_; rintro e ww ⟨rfl, rfl⟩)
    | (go_at_call 18; with_reducible refine (b1 _).mono ?_; rintro e ww ⟨rfl, rfl⟩))
  go_ret
  exact ⟨⟨_, rfl, ro_three _ _ _ _, (fun h => by cases h), (fun b off n c e => by cases e; exact Nat.le_refl _)⟩, Ve.below_n1 _ _⟩

theorem needs_any (k f : Nat) (hk : k < 4) (hf : f < 32) : NeedsAt k f (needL k f) := by
  match k, hk with
  | 0, _ => exact needs_0 f
  | 1, _ =>
    unfold needL
    by_cases h0 : f = 0
    · subst h0; exact needs_10
    · simp only [if_neg h0]; exact needs_1 f hf h0
  | 2, _ => exact needs_2 f hf
  | 3, _ => exact needs_3 f hf

set_option maxHeartbeats 2000000 in
set_option maxRecDepth 100000 in
theorem clone_any (v : Value) (l : List Int) (w : World) (h : Ro w v l) (hl : l.length ≤ 1000) (hnil : l = [] → v = .slice none 0 0) : Calls Tryd.prog 33 #[v] w fun e w' => (∃ v, e = .returned v ∧ Ro w' v l ∧ ∀ b off n c, v = .slice (some ⟨b, off, none⟩) n c → w.heap.size ≤ b) ∧ Below w.heap.size w w' := by
  have q34 : ∀ (w : World) (a : Option Addr) (n c n' c' : Nat), (binOp .eql 47 (.slice a n c) (.slice none n' c')).run Tryd.prog w = .ok (.bool a.isNone) w := fun w a n c n' c' => Lib.run_eql_slice_nil w _ _ a n c n' c' Tryd.underlying47
  by_cases h0 : l = []
  · have hv := hnil h0
    subst hv
    subst h0
    go_enter Tryd.func33, Tryd.ntmps33
    go_wp2_with fail
    go_ret
    exact ⟨⟨_, rfl, ro_nil _, (fun b off n c e => by cases e)⟩, Below.refl _ _⟩
  · obtain ⟨a, n, c, rfl, hn, hm, h⟩ := h
    have hn0 : ¬ n = 0 := fun e => h0 (List.eq_nil_of_length_eq_zero (by omega))
    rcases h with h | ⟨b, off, rfl, hlt, hc⟩
    · exact absurd h hn0
    · obtain ⟨i0, hi, hz0, hz1, hz2⟩ := info_parts infoN
      have HO := Lib.hid (show (w.alloc (.cells #[] 3)).ownsRow w.heap.size 3 1 (.slice (some ⟨w.heap.size, 0, none⟩) 0 0) 0 [] from
        ⟨rfl, .inr ⟨w.heap.size, 0, #[], rfl, Nat.le_refl _, heap_alloc_last w _, Nat.le_refl _, Nat.zero_le _, rfl, rfl⟩⟩)
      have HN := Lib.hid (show (iv l).length = n * 1 by rw [iv_length, Nat.mul_one]; exact hn.symm)
      have HC := Lib.hid (show ∀ j u, (iv l)[j]? = some u → (w.alloc (.cells #[] 3)).cell? ((⟨b, off, none⟩ : Addr).add j) = some u from fun j u hu => by
        have hj : j < l.length := by
          have := (List.getElem?_eq_some_iff.1 hu).1
          rwa [iv_length] at this
        rw [Se.add_at, (Ve.below_n1 w (.cells #[] 3)).cell (p := ⟨b, off + j, none⟩) hlt, hc j (by omega)]
        rw [← hu]
        unfold iv
        simp [List.getD, hj])
      clear hn hc h0 hnil
      go_enter Tryd.func33, Tryd.ntmps33
      go_wp2_with (at_builtin; refine wpList_append_own _ rfl _ _ 47 rfl w.heap.size 3 i0 (.int .i64 0) 1 8 Tryd.underlying47 hi hz0 hz1 hz2 rfl (by decide) _ _ _ rfl HO.out ⟨b, off, none⟩ n c (iv l) rfl HN.out HC.out (iv_one _) ?d3 ?d4 ?d5 ?_)
      case d3 => unfold maxLen; have := HN.out; rw [iv_length] at this; omega
      case d4 => have := HN.out; rw [iv_length] at this; omega
      case d5 => first | omega | simp
      intro v2 w2_ hown2 hgrow2 _
      have hb2 : Below w.heap.size w w2_ := ((Below.refl _ w).alloc (Nat.le_refl _) _).grown hgrow2 (by simp) (fun q hq => (HO.out.lt q hq).1)
      have HR := Lib.hid (own_ro (l := l) (by simpa using hown2) (by have := HN.out; rw [iv_length] at this; omega))
      have HBK := Lib.hid (show ∀ b off n c, v2 = .slice (some ⟨b, off, none⟩) n c → w.heap.size ≤ b from fun b off n c e => by
        rcases hown2.2 with ⟨h1, _⟩ | ⟨q, _, _, h1, h2, _⟩
        · rw [h1] at e; cases e
        · rw [h1] at e; cases e; exact h2)
      clear hown2 hgrow2
      go_wp2_with fail
      go_ret
      exact ⟨⟨_, rfl, HR.out, HBK.out⟩, hb2⟩
end Go.Proofs.YtndpidmbfdpiaaaDoor.St
