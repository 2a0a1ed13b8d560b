/- Layer 25, the document's: whether a number is in a list, whether a step may be done, the order. -/
import Derived.Test.YtndpidmbfdpiaaaPni
import Derived.Test.YtndpidmbfdpiaaaLs
namespace Go.Proofs.Ytndpidmbfdpiaaa.Pn
open Go Go.RowKit Go.Proofs.Ytndpidmbfdpiaaa Go.Proofs.Ytndpidmbfdpiaaa.Au Go.Proofs.Ytndpidmbfdpiaaa.Re
set_option linter.unusedVariables false
set_option linter.unusedSimpArgs false

theorem Ro.len {w : World} {a : Option Addr} {n c : Nat} {l : List Int} (h : Ro w (.slice a n c) l) : n = l.length ∧ n ≤ 9223372036854775807 := by
  obtain ⟨_, _, _, hv, hn, hm, _⟩ := h
  cases hv
  exact ⟨hn, hm.1⟩
theorem Ro.cap {w : World} {a : Option Addr} {n c : Nat} {l : List Int} (h : Ro w (.slice a n c) l) : n ≤ c := by
  obtain ⟨_, _, _, hv, hn, hm, _⟩ := h
  cases hv
  exact hm.2
theorem Ro.at {w : World} {a : Option Addr} {n c : Nat} {l : List Int} (h : Ro w (.slice a n c) l) {j : Nat} (hj : j < n) : ∃ b off, a = some ⟨b, off, none⟩ ∧ w.cell? ⟨b, off + j, none⟩ = some (.int .i64 (l.getD j 0)) := by
  obtain ⟨_, _, _, hv, hn, hm, h⟩ := h
  cases hv
  rcases h with h | ⟨b, off, ha, _, hc⟩
  · omega
  · exact ⟨b, off, ha, hc j hj⟩
theorem Ro.form {w : World} {v : Value} {l : List Int} (h : Ro w v l) : ∃ a c, v = .slice a l.length c := by
  obtain ⟨a, n, c, hv, hn, _⟩ := h
  exact ⟨a, c, by rw [hv, hn]⟩
theorem has_take {l : List Int} {k : Nat} {m : Int} (h : k < l.length) : has (l.take (k + 1)) m = (has (l.take k) m || l.getD k 0 == m) := by
  have e : l.take (k + 1) = l.take k ++ [l.getD k 0] := by
    rw [List.take_succ_eq_append_getElem h]
    simp [List.getD, h]
  rw [e, has_append]
theorem all_take {l : List Int} {k : Nat} {p : Int → Bool} (h : k < l.length) : (l.take (k + 1)).all p = ((l.take k).all p && p (l.getD k 0)) := by
  have e : l.take (k + 1) = l.take k ++ [l.getD k 0] := by
    rw [List.take_succ_eq_append_getElem h]
    simp [List.getD, h]
  rw [e, List.all_append]
  simp

set_option maxHeartbeats 2000000 in
set_option maxRecDepth 100000 in
theorem in_any (v : Value) (l : List Int) (m : Int) (w : World) (h : Ro w v l) :
    Calls Try.prog 20 #[v, .int .i64 m] w fun e w' => e = .returned (.bool (has l m)) ∧ w = w' := by
  obtain ⟨a, c, rfl⟩ := h.form
  obtain ⟨n, hn⟩ : ∃ n, n = l.length := ⟨_, rfl⟩
  rw [← hn] at h ⊢
  have HR := Lib.hid h
  have HN := Lib.hid hn
  have hnb := h.len.2
  clear h hn
  go_enter Try.func20, Try.ntmps20
  go_wp2_with fail
  go_loopw [5] (fun v wr => ∃ i : Nat, i ≤ n ∧ v = .int .i64 i ∧ Hid (has (l.take i) m = false) ∧ w = wr) (fun v _ => n - (intOf v).toNat)
  case atStart => exact ⟨0, by omega, rfl, Lib.hid rfl, by first | trivial | rfl⟩
  case round =>
    obtain ⟨i, hi, rfl, HM, rfl⟩ := hrel
    by_cases hlt : i < n
    · have hlt' : (i : Int) < n := by omega
      obtain ⟨b, off, ha, hc⟩ := HR.out.at hlt
      subst ha
      have HT := Lib.hid (has_take (m := m) (show i < l.length by rw [← HN.out]; exact hlt))
      generalize l.getD i 0 = x at hc HT
      by_cases hx : x = m
      · have HH := Lib.hid (show has l m = true by
          refine has_iff.2 ?_
          have h1 := HT.out
          rw [HM.out, hx] at h1
          have h2 : has (l.take (i + 1)) m = true := by rw [h1]; simp
          exact List.mem_of_mem_take (has_iff.1 h2))
        subst hx
        go_wp2_with fail
        go_ret
        rw [HH.out]
        exact ⟨rfl, rfl⟩
      · have HH := Lib.hid (show has (l.take (i + 1)) m = false by rw [HT.out, HM.out]; simp [hx])
        go_wp2_with fail
        go_roundw
        case rel => exact ⟨i + 1, by omega, by go_num, HH, by first | trivial | rfl⟩
        case measure => simp [intOf]; omega
    · have hge : ¬ (i : Int) < n := by omega
      have hi' : i = n := by omega
      subst hi'
      have HH := Lib.hid (show has l m = false by
        have := HM.out
        rwa [HN.out, List.take_length] at this)
      go_wp2_with fail
      go_ret
      rw [HH.out]
      exact ⟨rfl, rfl⟩

set_option maxHeartbeats 2000000 in
set_option maxRecDepth 100000 in
theorem rmay_any (a : Option Addr) (c n : Nat) (L : List (List Int)) (v : Value) (out : List Int) (k : Nat) (w : World) (hP : PAt w a n L) (hk : k < n) (h : Ro w v out) :
    Calls Try.prog 21 #[.slice a n c, v, .int .i64 k] w fun e w' => e = .returned (.bool (may L out k)) ∧ w = w' := by
  have hk' : (k : Int) < n := by omega
  obtain ⟨va, vc, rfl⟩ := h.form
  have hin := fun m => in_any _ out m w h
  obtain ⟨b, off, rfl, b', c', hcell, hro⟩ := hP.row hk
  have hmay : may L out k = (!has out (k : Int) && (L[k]!).all (has out)) := rfl
  rw [hmay]
  generalize L[k]! = R at hcell hro ⊢
  obtain ⟨r, hr⟩ : ∃ r, r = R.length := ⟨_, rfl⟩
  rw [← hr] at hcell hro
  have HR := Lib.hid hro
  have HRL := Lib.hid hr
  have hrb := hro.len.2
  obtain ⟨vn, hvn⟩ : ∃ n, n = out.length := ⟨_, rfl⟩
  rw [← hvn] at hin ⊢
  clear hr hro h hP hmay hvn
  cases h0 : has out (k : Int) with
  | true =>
    have hin0 := hin (k : Int)
    rw [h0] at hin0
    go_enter Try.func21, Try.ntmps21
    go_wp2_with (go_at_call 20; refine hin0.mono ?_; rintro e ww ⟨rfl, rfl⟩)
    go_ret
    exact ⟨rfl, rfl⟩
  | false =>
    have hin0 := hin (k : Int)
    rw [h0] at hin0
    go_enter Try.func21, Try.ntmps21
    go_wp2_with (go_at_call 20; refine hin0.mono ?_; rintro e ww ⟨rfl, rfl⟩)
    clear hin0
    go_loopw [7] (fun v wr => ∃ i : Nat, i ≤ r ∧ v = .int .i64 i ∧ Hid ((R.take i).all (has out) = true) ∧ w = wr) (fun v _ => r - (intOf v).toNat)
    case atStart => exact ⟨0, by omega, rfl, Lib.hid rfl, by first | trivial | rfl⟩
    case round =>
      obtain ⟨i, hi, rfl, HM, rfl⟩ := hrel
      by_cases hlt : i < r
      · have hlt' : (i : Int) < r := by omega
        obtain ⟨b2, off2, ha, hc⟩ := HR.out.at hlt
        subst ha
        have HT := Lib.hid (all_take (p := has out) (show i < R.length by rw [← HRL.out]; exact hlt))
        have hmem : R.getD i 0 ∈ R := by
          have : i < R.length := by rw [← HRL.out]; exact hlt
          simp only [List.getD, List.getElem?_eq_getElem this, Option.getD_some]
          exact List.getElem_mem _
        have HME := Lib.hid hmem
        clear hmem
        generalize R.getD i 0 = x at hc HT HME
        have hin1 := hin x
        cases hx : has out x with
        | true =>
          have HH := Lib.hid (show (R.take (i + 1)).all (has out) = true by rw [HT.out, HM.out, hx]; rfl)
          rw [hx] at hin1
          go_wp2_with (go_at_call 20; refine hin1.mono ?_; rintro e ww ⟨rfl, rfl⟩)
          go_roundw
          case rel => exact ⟨i + 1, by omega, by go_num, HH, by first | trivial | rfl⟩
          case measure => simp [intOf]; omega
        | false =>
          have HH := Lib.hid (show R.all (has out) = false by
            cases hh : R.all (has out) with
            | false => rfl
            | true => rw [List.all_eq_true.1 hh x HME.out] at hx; cases hx)
          rw [hx] at hin1
          go_wp2_with (go_at_call 20; refine hin1.mono ?_; rintro e ww ⟨rfl, rfl⟩)
          go_ret
          rw [HH.out]
          exact ⟨rfl, rfl⟩
      · have hge : ¬ (i : Int) < r := by omega
        have hi' : i = r := by omega
        subst hi'
        have HH := Lib.hid (show R.all (has out) = true by
          have := HM.out
          rwa [HRL.out, List.take_length] at this)
        go_wp2_with fail
        go_ret
        rw [HH.out]
        exact ⟨rfl, rfl⟩

end Go.Proofs.Ytndpidmbfdpiaaa.Pn
