/- Layer 25, the document's Deep (it calls itself), the law's deep, the document's Dones. -/
import Derived.Test.YtndpidmbfdpiaaaPnj
import Derived.Test.YtndpidmbfdpiaaaPnc
namespace Go.Proofs.Ytndpidmbfdpiaaa.Pn
open Go Go.RowKit Go.Proofs.Ytndpidmbfdpiaaa Go.Proofs.Ytndpidmbfdpiaaa.Au Go.Proofs.Ytndpidmbfdpiaaa.Re
set_option linter.unusedVariables false
set_option linter.unusedSimpArgs false

theorem mxk_s (f : Int → Int) (l : List Int) (k : Nat) : mxk f l (k + 1) = max (mxk f l k) (f (l.getD k 0)) := rfl
theorem getD_mem2 {l : List Int} {i : Nat} (h : i < l.length) : l.getD i 0 ∈ l := by rw [getD_lt h]; exact List.getElem_mem h

set_option maxHeartbeats 4000000 in
set_option maxRecDepth 100000 in
theorem rdeep_any (a : Option Addr) (c n : Nat) (L : List (List Int)) (o : List Int) (hn : n = L.length) (hn4 : n ≤ 4000) (hw : Whole L o) : ∀ f i : Nat, i < f → i < o.length → ∀ w : World, PAt w a n L →
    Calls Try.prog 24 #[.slice a n c, .int .i64 (o.getD i 0)] w fun e w' => e = .returned (.int .i64 (dp L (o.getD i 0))) ∧ w = w' := by
  intro f
  induction f with
  | zero => intro i h; exact absurd h (Nat.not_lt_zero _)
  | succ f ih =>
    intro i hif hio w hP
    have HN := Lib.hid hn
    have HP := Lib.hid hP
    have hr0 := hw.ok.2 (o.getD i 0) (getD_mem2 hio)
    have hdq := dp_eq hw hio
    have hnd := fun q hq => hw.need hio (q := q) hq
    have hbd0 := dp_bd L (o.getD i 0)
    obtain ⟨q, hq0⟩ : ∃ q : Nat, o.getD i 0 = (q : Int) := ⟨(o.getD i 0).toNat, by omega⟩
    rw [hq0] at hr0 hdq hnd hbd0 ⊢
    have hq : q < n := by omega
    have hq' : (q : Int) < n := by omega
    obtain ⟨pb, poff, hpa, b', c', hcell, hro⟩ := hP.row hq
    subst hpa
    rw [Int.toNat_natCast] at hdq
    have hnd' : ∀ k, k < (L[q]!).length → ∃ j, j < i ∧ (L[q]!).getD k 0 = o.getD j 0 := fun k hk => hnd k (by rw [Int.toNat_natCast]; exact hk)
    have HND := Lib.hid hnd'
    rw [hdq] at hbd0 ⊢
    clear hnd hnd' hdq hP
    generalize L[q]! = R at hcell hro HND hbd0 ⊢
    obtain ⟨r, hr⟩ : ∃ r, r = R.length := ⟨_, rfl⟩
    rw [← hr] at hcell hro hbd0 ⊢
    have HRL := Lib.hid hr
    have HRO := Lib.hid hro
    have hrb := hro.len.2
    rw [← HN.out] at hbd0
    have HBD := Lib.hid hbd0
    clear hr hro hn hbd0 hq0
    go_enter Try.func24, Try.ntmps24
    go_wp2_with fail
    go_loopw [5, 6] (fun mv v wr => ∃ k : Nat, k ≤ r ∧ mv = .int .i64 (mxk (dp L) R k) ∧ v = .int .i64 k ∧ w = wr) (fun _ v _ => r - (intOf v).toNat)
    case atStart => exact ⟨0, by omega, rfl, rfl, by first | trivial | rfl⟩
    case round =>
      obtain ⟨k, hk, rfl, rfl, rfl⟩ := hrel
      by_cases hkr : k < r
      · have hkr' : (k : Int) < r := by omega
        obtain ⟨b2, o2, e2, hci⟩ := HRO.out.at hkr
        subst e2
        obtain ⟨j, hj, ej⟩ := HND.out k (by rw [← HRL.out]; exact hkr)
        have hjo : j < o.length := by omega
        have hcall := ih j (by omega) hjo w HP.out
        rw [← ej] at hcall
        have HM := Lib.hid (mxk_s (dp L) R k)
        generalize R.getD k 0 = x at hci hcall HM
        obtain ⟨Y, hY⟩ : ∃ Y, Y = dp L x := ⟨_, rfl⟩
        obtain ⟨X, hX⟩ : ∃ X, X = mxk (dp L) R k := ⟨_, rfl⟩
        rw [← hY, ← hX] at HM
        rw [← hY] at hcall
        rw [← hX]
        clear ej hX hY
        by_cases hxy : X < Y
        · have d0 : decide (X < Y) = true := by simp [hxy]
          go_wp2_with (go_at_call 24; refine hcall.mono ?_; rintro e ww ⟨rfl, rfl⟩)
          go_roundw
          case rel => exact ⟨k + 1, by omega, by rw [HM.out]; congr 1; omega, by go_num, by first | trivial | rfl⟩
          case measure => simp [intOf]; omega
        · have d0 : decide (X < Y) = false := by simp; omega
          go_wp2_with (go_at_call 24; refine hcall.mono ?_; rintro e ww ⟨rfl, rfl⟩)
          go_roundw
          case rel => exact ⟨k + 1, by omega, by rw [HM.out]; congr 1; omega, by go_num, by first | trivial | rfl⟩
          case measure => simp [intOf]; omega
      · have hge : ¬ (k : Int) < r := by omega
        have hk' : k = r := by omega
        rw [hk']
        have hb := HBD.out
        obtain ⟨X, hX⟩ : ∃ X, X = mxk (dp L) R r := ⟨_, rfl⟩
        have HX := Lib.hid hX
        rw [← hX] at hb ⊢
        clear hX
        rw [hk'] at hge
        clear hk' hkr hk
        go_wp2_with fail
        go_ret
        rw [← HX.out]
        exact ⟨by first | rfl | (congr 1; congr 1; omega), rfl⟩

set_option maxHeartbeats 4000000 in
set_option maxRecDepth 100000 in
theorem ldeep_any (a : Option Addr) (c n : Nat) (L : List (List Int)) (o : List Int) (hn : n = L.length) (hn4 : n ≤ 4000) (hw : Whole L o) (w : World) (hP : PAt w a n L) :
    Calls Try.prog 15 #[.slice a n c] w fun e w' => e = .returned (.int .i64 (mxk (dp L) (upto n) n)) ∧ w = w' := by
  have HP := Lib.hid hP
  have HN := Lib.hid hn
  have HW := Lib.hid hw
  clear hP hn hw
  go_enter Try.func15, Try.ntmps15
  go_wp2_with fail
  go_loopw [3, 7] (fun mv v wr => ∃ k : Nat, k ≤ n ∧ mv = .int .i64 (mxk (dp L) (upto n) k) ∧ v = .int .i64 k ∧ w = wr) (fun _ v _ => n - (intOf v).toNat)
  case atStart => exact ⟨0, by omega, rfl, rfl, by first | trivial | rfl⟩
  case round =>
    obtain ⟨k, hk, rfl, rfl, rfl⟩ := hrel
    by_cases hkn : k < n
    · have hkn' : (k : Int) < n := by omega
      obtain ⟨i, hi, e⟩ := stands HW.out.ok HW.out.len k (by have := HN.out; omega)
      have hcall := rdeep_any a c n L o HN.out hn4 HW.out (i + 1) i (by omega) hi w HP.out
      rw [e] at hcall
      have HM := Lib.hid (show mxk (dp L) (upto n) (k + 1) = max (mxk (dp L) (upto n) k) (dp L (k : Int)) by rw [mxk_s, upto_get hkn])
      obtain ⟨Y, hY⟩ : ∃ Y, Y = dp L (k : Int) := ⟨_, rfl⟩
      obtain ⟨X, hX⟩ : ∃ X, X = mxk (dp L) (upto n) k := ⟨_, rfl⟩
      rw [← hY, ← hX] at HM
      rw [← hY] at hcall
      rw [← hX]
      clear e hX hY
      go_wp2_with (go_at_call 24; refine hcall.mono ?_; rintro e ww ⟨rfl, rfl⟩)
      go_roundw
      case rel => exact ⟨k + 1, by omega, by rw [HM.out], by go_num, by first | trivial | rfl⟩
      case measure => simp [intOf]; omega
    · have hge : ¬ (k : Int) < n := by omega
      have hk' : k = n := by omega
      subst hk'
      go_wp2_with fail
      go_ret
      exact ⟨rfl, rfl⟩

set_option maxHeartbeats 4000000 in
set_option maxRecDepth 100000 in
theorem rdones_any (d n : Nat) (L : List (List Int)) (out : List Int) (T : TypeId) (w : World) (hn : n ≤ 4000) (h : w.rowIs d T n (fun i => .bool (has out (i : Int)))) :
    Calls Try.prog 25 #[.slice (some ⟨d, 0, none⟩) n n] w fun e w' => (∃ v, e = .returned v ∧ w'.ownsRow w.heap.size 3 1 v (sorted L out n).length (iv (sorted L out n))) ∧ Below w.heap.size w w' := by
  have HR := Lib.hid h
  clear h
  obtain ⟨i0, hi, hz0, hz1, hz2⟩ := info_parts infoN
  go_enter Try.func25, Try.ntmps25
  go_wp2_with fail
  go_loopw [3, 4] (fun rv v wr => ∃ (i m : Nat) (ra : Option Addr) (rc : Nat), i ≤ n ∧ m ≤ i ∧ rv = .slice ra m rc ∧ v = .int .i64 i ∧ Hid (m = (sorted L out i).length) ∧ Hid (wr.ownsRow w.heap.size 3 1 (.slice ra m rc) m (iv (sorted L out i))) ∧ Hid (Below w.heap.size w wr)) (fun _ v _ => n - (intOf v).toNat)
  case atStart => exact ⟨0, 0, none, 0, by omega, by omega, rfl, rfl, Lib.hid rfl, Lib.hid (World.ownsRow_nil _ _ _ _), Lib.hid (Below.refl _ _)⟩
  case round =>
    obtain ⟨i, m, ra, rc, hin, hmi, rfl, rfl, HL, HI, HB⟩ := hrel
    have hsz := HB.out.size
    by_cases hlt : i < n
    · have hlt' : (i : Int) < n := by omega
      have hcd := (HR.out.of_block (HB.out.block d HR.out.lt)).cell hlt
      cases hm : has out (i : Int) with
      | true =>
        have HX := Lib.hid (show sorted L out (i + 1) = sorted L out i ++ [(i : Int)] by simp [sorted, List.range_succ, List.filter_append, hm])
        rw [hm] at hcd
        have HI1 := Lib.hid (HI.out.alloc (.cells #[.int .i64 (i : Int)] 3))
        have HV := Lib.hid (iv_one1 (i : Int) wr wr.heap.size rfl)
        go_wp2_with (at_builtin; refine wpList_append_own _ rfl _ _ 28 rfl w.heap.size 3 i0 (.int .i64 0) 1 8 Try.underlying28 hi hz0 hz1 hz2 rfl (by decide) _ _ _ rfl HI1.out ⟨wr.heap.size, 0, none⟩ 1 1 (iv [(i : Int)]) rfl rfl HV.out (iv_one _) ?d3 ?d4 ?d5 ?_)
        case d3 => unfold maxLen; omega
        case d4 => omega
        case d5 => first | omega | (simp; omega)
        intro v2 w2_ hown2 hgrow2 _
        have hb2 : Below w.heap.size w w2_ := (HB.out.alloc hsz _).grown hgrow2 (by simp; omega) (fun q hq => (HI.out.lt q hq).1)
        have HO2 := Lib.hid (show w2_.ownsRow w.heap.size 3 1 v2 (m + 1) (iv (sorted L out (i + 1))) by rw [HX.out, iv_append]; exact hown2)
        obtain ⟨a9, c9, hv9⟩ := own_form HO2.out
        subst hv9
        clear hown2 hgrow2 HI HI1 HV
        go_wp2_with fail
        go_roundw
        case rel => exact ⟨i + 1, m + 1, a9, c9, by omega, by omega, rfl, by go_num, Lib.hid (by rw [HX.out, List.length_append, ← HL.out]; rfl), HO2, Lib.hid hb2⟩
        case measure => simp [intOf]; omega
      | false =>
        have HX := Lib.hid (show sorted L out (i + 1) = sorted L out i by simp [sorted, List.range_succ, List.filter_append, hm])
        rw [hm] at hcd
        go_wp2_with fail
        go_roundw
        case rel => exact ⟨i + 1, m, ra, rc, by omega, by omega, rfl, by go_num, Lib.hid (by rw [HX.out]; exact HL.out), Lib.hid (by rw [HX.out]; exact HI.out), HB⟩
        case measure => simp [intOf]; omega
    · have hge : ¬ (i : Int) < n := by omega
      have hi' : i = n := by omega
      subst hi'
      go_wp2_with fail
      go_ret
      exact ⟨⟨_, rfl, by rw [← HL.out]; exact HI.out⟩, HB.out⟩
end Go.Proofs.Ytndpidmbfdpiaaa.Pn
