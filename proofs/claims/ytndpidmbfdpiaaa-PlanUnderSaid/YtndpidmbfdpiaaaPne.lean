/- Layer 25: the program's First; which rule of the names a plan breaks first. -/
import Derived.Test.YtndpidmbfdpiaaaPni
import Derived.Test.YtndpidmbfdpiaaaLs
namespace Go.Proofs.Ytndpidmbfdpiaaa.Pn
open Go Go.RowKit Go.Shelf Go.Proofs Go.Proofs.Ytndpidmbfdpiaaa Go.Proofs.Ytndpidmbfdpiaaa.Au Go.Proofs.Ytndpidmbfdpiaaa.Re
set_option linter.unusedVariables false
set_option linter.unusedSimpArgs false

def firstV (o : Option Nat) : Value := match o with | some n => .tuple #[.int .i64 n, .bool true] | none => .tuple #[.int .i64 0, .bool false]

set_option maxHeartbeats 2000000 in
set_option maxRecDepth 100000 in
theorem first_any (a : Option Addr) (c d n : Nat) (L : List (List Int)) (out : List Int) (T : TypeId) (w : World) (hn : n = L.length) (hP : PAt w a n L) (ho : Ok L out) (h : w.rowIs d T n (fun i => .bool (has out (i : Int)))) :
    Calls Try.prog 19 #[.slice a n c, .slice (some ⟨d, 0, none⟩) n n] w fun e w' => e = .returned (firstV (first L out)) ∧ Below w.heap.size w w' := by
  have HP := Lib.hid hP
  have HR := Lib.hid h
  have HN := Lib.hid hn
  have hnb := hP.2.1
  clear hP h hn
  go_enter Try.func19, Try.ntmps19
  go_wp2_with fail
  go_loopw [9] (fun v wr => ∃ i : Nat, i ≤ n ∧ v = .int .i64 i ∧ Hid (Below w.heap.size w wr) ∧ Hid (∀ j, j < i → may L out j = false)) (fun v _ => n - (intOf v).toNat)
  case atStart => exact ⟨0, by omega, rfl, Lib.hid (Below.refl _ _), Lib.hid (fun j hj => absurd hj (Nat.not_lt_zero _))⟩
  case round =>
    obtain ⟨i, hin, rfl, HB, HM⟩ := hrel
    by_cases hlt : i < n
    · have hlt' : (i : Int) < n := by omega
      have hcall : Calls Try.prog 26 #[.slice a n c, .int .i64 i, .slice (some ⟨d, 0, none⟩) n n] wr fun e w' => e = .returned (.bool (may L out i)) ∧ Below wr.heap.size wr w' := by
        have hn := HN.out
        subst hn
        exact may_any a c d L out T i wr (HP.out.on HB.out) hlt ho (HR.out.of_block (HB.out.block d HR.out.lt))
      cases hm : may L out i with
      | true =>
        have HF := Lib.hid (first_at (by rw [← HN.out]; exact hlt) hm HM.out)
        rw [hm] at hcall
        go_wp2_with (go_at_call 26; refine hcall.mono ?_; rintro e w1 ⟨rfl, hb1⟩)
        go_ret2
        rw [HF.out]
        exact ⟨rfl, HB.out.trans (hb1.mono HB.out.size)⟩
      | false =>
        have HM2 := Lib.hid (show ∀ j, j < i + 1 → may L out j = false from fun j hj => by
          by_cases e : j = i
          · subst e; exact hm
          · exact HM.out j (by omega))
        rw [hm] at hcall
        go_wp2_with (go_at_call 26; refine hcall.mono ?_; rintro e w1 ⟨rfl, hb1⟩)
        go_roundw
        case rel => exact ⟨i + 1, by omega, by go_num, Lib.hid (HB.out.trans (hb1.mono HB.out.size)), HM2⟩
        case measure => simp [intOf]; omega
    · have hge : ¬ (i : Int) < n := by omega
      have hF := Lib.hid (first_no (L := L) (out := out) (fun j hj => HM.out j (by have := HN.out; omega)))
      go_wp2_with fail
      go_ret2
      rw [hF.out]
      exact ⟨rfl, HB.out⟩

set_option maxHeartbeats 2000000 in
set_option maxRecDepth 100000 in
theorem ready_any (a : Option Addr) (c d n : Nat) (L : List (List Int)) (out : List Int) (T : TypeId) (w : World) (hn : n = L.length) (hP : PAt w a n L) (ho : Ok L out) (h : w.rowIs d T n (fun i => .bool (has out (i : Int)))) :
    Calls Try.prog 17 #[.slice a n c, .slice (some ⟨d, 0, none⟩) n n] w fun e w' => (∃ v, e = .returned v ∧ w'.ownsRow w.heap.size 3 1 v (ready L out n).length (iv (ready L out n))) ∧ Below w.heap.size w w' := by
  have HP := Lib.hid hP
  have HR := Lib.hid h
  have HN := Lib.hid hn
  have hnb := hP.2.1
  clear hP h hn
  obtain ⟨i0, hi, hz0, hz1, hz2⟩ := info_parts infoN
  go_enter Try.func17, Try.ntmps17
  go_wp2_with fail
  go_loopw [5, 9] (fun rv v wr => ∃ (i m : Nat) (ra : Option Addr) (rc : Nat), i ≤ n ∧ m ≤ i ∧ rv = .slice ra m rc ∧ v = .int .i64 i ∧ Hid (m = (ready L out i).length) ∧ Hid (wr.ownsRow w.heap.size 3 1 (.slice ra m rc) m (iv (ready L out i))) ∧ Hid (Below w.heap.size w wr)) (fun _ v _ => n - (intOf v).toNat)
  case atStart => exact ⟨0, 0, none, 0, by omega, by omega, rfl, rfl, Lib.hid rfl, Lib.hid (World.ownsRow_nil _ _ _ _), Lib.hid (Below.refl _ _)⟩
  case round =>
    obtain ⟨i, m, ra, rc, hin, hmi, rfl, rfl, HL, HI, HB⟩ := hrel
    have hsz := HB.out.size
    by_cases hlt : i < n
    · have hlt' : (i : Int) < n := by omega
      have hcall : Calls Try.prog 26 #[.slice a n c, .int .i64 i, .slice (some ⟨d, 0, none⟩) n n] wr fun e w' => e = .returned (.bool (may L out i)) ∧ Below wr.heap.size wr w' := by
        have hn := HN.out
        subst hn
        exact may_any a c d L out T i wr (HP.out.on HB.out) hlt ho (HR.out.of_block (HB.out.block d HR.out.lt))
      cases hm : may L out i with
      | true =>
        have HX := Lib.hid (ready_yes hm)
        rw [hm] at hcall
        go_wp2_with (first
          | (go_at_call 26; refine hcall.mono ?_; rintro e y1 ⟨rfl, hb1⟩)
          | (have HI1 := Lib.hid ((Ls.own_below HI.out hb1).alloc (.cells #[.int .i64 (i : Int)] 3)); have HV := Lib.hid (iv_one1 (i : Int) y1 y1.heap.size rfl); have hs1 := hb1.size; at_builtin; refine wpList_append_own _ rfl _ _ 28 rfl w.heap.size 3 i0 (.int .i64 0) 1 8 Try.underlying28 hi hz0 hz1 hz2 rfl (by decide) _ _ _ rfl HI1.out ⟨y1.heap.size, 0, none⟩ 1 1 (iv [(i : Int)]) rfl rfl HV.out (iv_one _) ?d3 ?d4 ?d5 ?_))
        case d3 => unfold maxLen; omega
        case d4 => omega
        case d5 => first | omega | (simp; omega)
        intro v2 w2_ hown2 hgrow2 _
        have hb2 : Below w.heap.size w w2_ := ((HB.out.trans (hb1.mono hsz)).alloc (by omega) _).grown hgrow2 (by simp; omega) (fun q hq => (HI.out.lt q hq).1)
        have HO2 := Lib.hid (show w2_.ownsRow w.heap.size 3 1 v2 (m + 1) (iv (ready L out (i + 1))) by rw [HX.out, iv_append]; exact hown2)
        obtain ⟨a9, c9, hv9⟩ := own_form HO2.out
        subst hv9
        clear hown2 hgrow2 HI HI1 HV
        go_wp2_with fail
        go_roundw
        case rel => exact ⟨i + 1, m + 1, a9, c9, by omega, by omega, rfl, by go_num, Lib.hid (by rw [HX.out, List.length_append, ← HL.out]; rfl), HO2, Lib.hid hb2⟩
        case measure => simp [intOf]; omega
      | false =>
        have HX := Lib.hid (ready_no hm)
        rw [hm] at hcall
        go_wp2_with (go_at_call 26; refine hcall.mono ?_; rintro e y1 ⟨rfl, hb1⟩)
        go_roundw
        case rel => exact ⟨i + 1, m, ra, rc, by omega, by omega, rfl, by go_num, Lib.hid (by rw [HX.out]; exact HL.out), Lib.hid (by rw [HX.out]; exact Ls.own_below HI.out hb1), Lib.hid (HB.out.trans (hb1.mono hsz))⟩
        case measure => simp [intOf]; omega
    · have hge : ¬ (i : Int) < n := by omega
      have hi' : i = n := by omega
      subst hi'
      go_wp2_with fail
      go_ret
      exact ⟨⟨_, rfl, by rw [← HL.out]; exact HI.out⟩, HB.out⟩
end Go.Proofs.Ytndpidmbfdpiaaa.Pn
