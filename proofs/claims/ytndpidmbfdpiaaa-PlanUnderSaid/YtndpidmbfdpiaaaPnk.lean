/- Layer 25, the document's order. -/
import Derived.Test.YtndpidmbfdpiaaaPnj
namespace Go.Proofs.Ytndpidmbfdpiaaa.Pn
open Go Go.RowKit Go.Proofs.Ytndpidmbfdpiaaa Go.Proofs.Ytndpidmbfdpiaaa.Au Go.Proofs.Ytndpidmbfdpiaaa.Re
set_option linter.unusedVariables false
set_option linter.unusedSimpArgs false

set_option maxHeartbeats 4000000 in
set_option maxRecDepth 100000 in
theorem rorder_any (a : Option Addr) (c n : Nat) (L : List (List Int)) (w : World) (hn : n = L.length) (hP : PAt w a n L) :
    Calls Try.prog 12 #[.slice a n c] w fun e w' => (∃ v, e = .returned v ∧ w'.ownsRow w.heap.size 3 1 v (ord L n).length (iv (ord L n))) ∧ Below w.heap.size w w' := by
  have HP := Lib.hid hP
  have HN := Lib.hid hn
  have hnb := hP.2.1
  clear hP hn
  obtain ⟨i0, hi, hz0, hz1, hz2⟩ := info_parts infoN
  go_enter Try.func12, Try.ntmps12
  go_wp2_with fail
  go_loopw [3, 4] (fun ov v wr => ∃ (r k : Nat) (oa : Option Addr) (oc : Nat), r ≤ n ∧ k ≤ n ∧ ov = .slice oa k oc ∧ v = .int .i64 r ∧ Hid (k = (ord L r).length) ∧ Hid (wr.ownsRow w.heap.size 3 1 (.slice oa k oc) k (iv (ord L r))) ∧ Hid (Below w.heap.size w wr)) (fun _ v _ => n - (intOf v).toNat)
  case atStart => exact ⟨0, 0, none, 0, by omega, by omega, rfl, rfl, Lib.hid rfl, Lib.hid (World.ownsRow_nil _ _ _ _), Lib.hid (Below.refl _ _)⟩
  case round =>
    obtain ⟨r, k, oa, oc, hr, hk, rfl, rfl, HL, HI, HB⟩ := hrel
    obtain ⟨y1, hy1⟩ : ∃ y, y = wr := ⟨_, rfl⟩
    subst hy1
    have hsz := HB.out.size
    by_cases hlt : r < n
    · have hlt' : (r : Int) < n := by omega
      have hPy := Lib.hid (HP.out.on HB.out)
      have hRo := Lib.hid (own_ro HI.out (by omega))
      go_wp2_with fail
      go_loopw [3, 5] (fun ov v wq => ∃ i : Nat, i ≤ n ∧ ov = .slice oa k oc ∧ v = .int .i64 i ∧ Hid (∀ j, j < i → may L (ord L r) j = false) ∧ y1 = wq) (fun _ v _ => n - (intOf v).toNat)
      case atStart => exact ⟨0, by omega, rfl, rfl, Lib.hid (fun j hj => absurd hj (Nat.not_lt_zero _)), by first | trivial | rfl⟩
      case round =>
        obtain ⟨i, hin, rfl, rfl, HM, hwy⟩ := hrel
        subst hwy
        by_cases hil : i < n
        · have hil' : (i : Int) < n := by omega
          have hcall := rmay_any a c n L _ (ord L r) i y1 hPy.out hil hRo.out
          cases hm : may L (ord L r) i with
          | true =>
            have HF := Lib.hid (first_at (by rw [← HN.out]; exact hil) hm HM.out)
            have HX := Lib.hid (ord_next HF.out)
            have hkn : k < n := by
              rcases Nat.lt_or_ge k n with h | h
              · exact h
              · have h1 := ok_full (ok_ord L r) (by rw [← HL.out, ← HN.out]; omega)
                rw [h1] at HF
                cases HF.out
            rw [hm] at hcall
            have HI1 := Lib.hid (HI.out.alloc (.cells #[.int .i64 (i : Int)] 3))
            have HV := Lib.hid (iv_one1 (i : Int) y1 y1.heap.size rfl)
            go_wp2_with (first
              | (go_at_call 21; refine hcall.mono ?_; rintro e ww ⟨rfl, rfl⟩)
              | (at_builtin; refine wpList_append_own _ rfl _ _ 28 rfl w.heap.size 3 i0 (.int .i64 0) 1 8 Try.underlying28 hi hz0 hz1 hz2 rfl (by decide) _ _ _ rfl HI1.out ⟨y1.heap.size, 0, none⟩ 1 1 (iv [(i : Int)]) rfl rfl HV.out (iv_one _) ?d3 ?d4 ?d5 ?_))
            case d3 => unfold maxLen; omega
            case d4 => omega
            case d5 => first | omega | (simp; omega)
            intro v2 w2_ hown2 hgrow2 _
            have hb2 : Below w.heap.size w w2_ := (HB.out.alloc hsz _).grown hgrow2 (by simp; omega) (fun q hq => (HI.out.lt q hq).1)
            have HO2 := Lib.hid (show w2_.ownsRow w.heap.size 3 1 v2 (k + 1) (iv (ord L (r + 1))) by rw [HX.out, iv_append]; exact hown2)
            have HL2 := Lib.hid (show k + 1 = (ord L (r + 1)).length by rw [HX.out, List.length_append, ← HL.out]; rfl)
            obtain ⟨a9, c9, hv9⟩ := own_form HO2.out
            subst hv9
            clear hown2 hgrow2 HI HI1 HV
            go_wp2_with fail
            go_roundw
            case rel => exact ⟨r + 1, k + 1, a9, c9, by omega, by omega, rfl, by go_num, HL2, HO2, Lib.hid hb2⟩
            case measure => simp [intOf]; omega
          | false =>
            have HM2 := Lib.hid (show ∀ j, j < i + 1 → may L (ord L r) j = false from fun j hj => by
              by_cases e : j = i
              · subst e; exact hm
              · exact HM.out j (by omega))
            rw [hm] at hcall
            go_wp2_with (go_at_call 21; refine hcall.mono ?_; rintro e ww ⟨rfl, rfl⟩)
            go_roundw
            case rel => exact ⟨i + 1, by omega, rfl, by go_num, HM2, by first | trivial | rfl⟩
            case measure => simp [intOf]; omega
        · have hge : ¬ (i : Int) < n := by omega
          have hF := Lib.hid (first_no (L := L) (out := ord L r) (fun j hj => HM.out j (by have := HN.out; omega)))
          have HX := Lib.hid (show ord L (r + 1) = ord L r by show next L (ord L r) = _; unfold next; rw [hF.out])
          go_wp2_with fail
          go_roundw
          case rel => exact ⟨r + 1, k, oa, oc, by omega, by omega, rfl, by go_num, Lib.hid (by rw [HX.out]; exact HL.out), Lib.hid (by rw [HX.out]; exact HI.out), HB⟩
          case measure => simp [intOf]; omega
    · have hge : ¬ (r : Int) < n := by omega
      have hr' : r = n := by omega
      subst hr'
      go_wp2_with fail
      go_ret
      exact ⟨⟨_, rfl, by rw [← HL.out]; exact HI.out⟩, HB.out⟩
end Go.Proofs.Ytndpidmbfdpiaaa.Pn
