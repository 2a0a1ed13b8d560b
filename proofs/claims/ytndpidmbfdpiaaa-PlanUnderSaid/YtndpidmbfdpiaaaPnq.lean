/- Layer 25, the document's Under. -/
import Derived.Test.YtndpidmbfdpiaaaPnp
import Derived.Test.YtndpidmbfdpiaaaPng
namespace Go.Proofs.Ytndpidmbfdpiaaa.Pn
open Go Go.RowKit Go.Proofs.Ytndpidmbfdpiaaa Go.Proofs.Ytndpidmbfdpiaaa.Au Go.Proofs.Ytndpidmbfdpiaaa.Re
set_option linter.unusedVariables false
set_option linter.unusedSimpArgs false

theorem rk_s (L : List (List Int)) (out : List Int) (k : Nat) : rk L out (k + 1) = if has (rk L out k) (k : Int) then rk L out k ++ L[k]! else rk L out k := rfl

theorem infoB2 : (Try.prog.info? 4).map (fun i => (i.zero, i.size, i.bytes)) = some (some (.bool false), 1, 1) := by kernel_rfl

set_option maxHeartbeats 8000000 in
set_option maxRecDepth 100000 in
theorem runder_any (a : Option Addr) (c n : Nat) (L : List (List Int)) (hF : Fits L) (q : Nat) (w : World) (hn : n = L.length) (hn4 : n ≤ 4000) (hq : q < n) (hP : PAt w a n L) :
    Calls Try.prog 16 #[.slice a n c, .int .i64 q] w fun e w' => (∃ v, e = .returned v ∧ w'.ownsRow w.heap.size 3 1 v (sorted L (rr L L[q]! n) n).length (iv (sorted L (rr L L[q]! n) n))) ∧ Below w.heap.size w w' := by
  have HP := Lib.hid hP
  have HN := Lib.hid hn
  have hq' : (q : Int) < n := by omega
  obtain ⟨pb, poff, hpa, b', c', hcq, hro⟩ := hP.row hq
  subst hpa
  have hpb : pb < w.heap.size := by
    have := World.block_lt_of_cell? w _ hcq
    simpa using this
  have HFR := Lib.hid (hF q (by omega))
  generalize L[q]! = R at hcq hro HFR ⊢
  obtain ⟨r, hr⟩ : ∃ r, r = R.length := ⟨_, rfl⟩
  rw [← hr] at hcq hro
  have HRL := Lib.hid hr
  have HRO := Lib.hid hro
  have HCQ := Lib.hid hcq
  have hrb := hro.len.2
  clear hr hro hn hP hcq
  have hmk := fun w => run_make_row' (P := Try.prog) 38 4 (.bool false) 1 Try.underlying38 infoB2 rfl .i64 .i64 n (by omega) (by omega) w
  go_enter Try.func16, Try.ntmps16
  go_upto_region 2 with fail
  have hbd := Ve.below_n1 w (.cells (madeCells #[.bool false] n) 4)
  have hri := World.rowIs_made w (.bool false) n 4
  obtain ⟨y5, hy5⟩ : ∃ y, w.alloc (.cells (madeCells #[.bool false] n) 4) = y := ⟨_, rfl⟩
  obtain ⟨d, hd⟩ : ∃ q, q = w.heap.size := ⟨_, rfl⟩
  rw [hy5] at hbd hri ⊢
  rw [← hd] at hri ⊢
  have HGD := Lib.hid (show w.heap.size ≤ d by omega)
  have HB5 := Lib.hid hbd
  have HD5 := Lib.hid (show y5.rowIs d 4 n (fun i => .bool (has (R.take 0) (i : Int))) from hri)
  clear hbd hri hy5 hd hmk
  go_upto_region 3 with fail
  go_loopw [6] (fun v wr => ∃ k : Nat, k ≤ r ∧ v = .int .i64 k ∧ Hid (Below w.heap.size w wr) ∧ Hid (wr.rowIs d 4 n (fun i => .bool (has (R.take k) (i : Int))))) (fun v _ => r - (intOf v).toNat)
  case atStart => exact ⟨0, by omega, rfl, HB5, HD5⟩
  case round =>
    obtain ⟨k, hk, rfl, HB, HD⟩ := hrel
    have hcq := (HB.out.cell (p := ⟨pb, poff + q, none⟩) hpb).trans HCQ.out
    by_cases hkr : k < r
    · have hkr' : (k : Int) < r := by omega
      obtain ⟨b2, o2, e2, hci⟩ := (HRO.out.on HB.out).at hkr
      subst e2
      have hfr := HFR.out (R.getD k 0) (getD_mem2 (by rw [← HRL.out]; exact hkr))
      have HTk := Lib.hid (show R.take (k + 1) = R.take k ++ [R.getD k 0] by
        rw [List.take_succ_eq_append_getElem (by rw [← HRL.out]; exact hkr)]
        rw [getD_lt (by rw [← HRL.out]; exact hkr)])
      obtain ⟨s, hs0⟩ : ∃ s : Nat, R.getD k 0 = (s : Int) := ⟨(R.getD k 0).toNat, by omega⟩
      rw [hs0] at hci hfr HTk
      have hsn : s < n := by have := HN.out; omega
      have hsn' : (s : Int) < n := by omega
      have hcs := HD.out.cell hsn
      have hfs := HD.out.frozen s
      clear hs0 hfr
      go_wp2_with fail
      go_roundw
      case rel => exact ⟨k + 1, by omega, by go_num, Lib.hid (HB.out.setCell HGD.out _), Lib.hid (by rw [HTk.out]; exact row_did HD.out)⟩
      case measure => simp [intOf]; omega
    · have hge : ¬ (k : Int) < r := by omega
      have HD0 := Lib.hid (show wr.rowIs d 4 n (fun i => .bool (has (rr L R 0) (i : Int))) by
        have h := HD.out
        rw [show R.take k = rr L R 0 from List.take_of_length_le (by rw [← HRL.out]; omega)] at h
        exact h)
      go_upto_region 7 with fail
      clear hcq hge hkr hk
      go_loopw [7] (fun v wr => ∃ t : Nat, t ≤ n ∧ v = .int .i64 t ∧ Hid (Below w.heap.size w wr) ∧ Hid (wr.rowIs d 4 n (fun i => .bool (has (rr L R t) (i : Int))))) (fun v _ => n - (intOf v).toNat)
      case atStart => exact ⟨0, by omega, rfl, HB, HD0⟩
      case round =>
        obtain ⟨t, ht, rfl, HBt, HDt⟩ := hrel
        by_cases htn : t < n
        · have htn' : (t : Int) < n := by omega
          go_upto_region 10 with fail
          go_loopw [8] (fun v wr => ∃ k : Nat, k ≤ n ∧ v = .int .i64 k ∧ Hid (Below w.heap.size w wr) ∧ Hid (wr.rowIs d 4 n (fun i => .bool (has (rk L (rr L R t) k) (i : Int))))) (fun v _ => n - (intOf v).toNat)
          case atStart => exact ⟨0, by omega, rfl, HBt, HDt⟩
          case round =>
            obtain ⟨k, hk, rfl, HBk, HDk⟩ := hrel
            by_cases hkn : k < n
            · have hkn' : (k : Int) < n := by omega
              have HX := Lib.hid (rk_s L (rr L R t) k)
              obtain ⟨M, hM⟩ : ∃ M, M = rk L (rr L R t) k := ⟨_, rfl⟩
              rw [← hM] at HX HDk
              have HMM := Lib.hid hM
              clear hM
              obtain ⟨pb2, poff2, hpa2, b3, c3, hck, hro3⟩ := HP.out.row hkn
              cases hpa2
              have HFK := Lib.hid (hF k (by have := HN.out; omega))
              generalize L[k]! = Q at hck hro3 HX HFK
              obtain ⟨s, hs⟩ : ∃ s, s = Q.length := ⟨_, rfl⟩
              rw [← hs] at hck hro3
              have HQL := Lib.hid hs
              have HQO := Lib.hid hro3
              have HCK := Lib.hid hck
              have hsb := hro3.len.2
              clear hs hro3 hck
              cases hh : has M (k : Int) with
              | false =>
                rw [hh] at HX
                have hck := (HBk.out.cell (p := ⟨pb, poff + k, none⟩) hpb).trans HCK.out
                have hcd := HDk.out.cell hkn
                rw [hh] at hcd
                go_upto_region 13 with fail
                go_loopw [9] (fun v wq => v = .int .i64 0 ∧ wr = wq) (fun v _ => 0)
                case atStart => exact ⟨rfl, by first | trivial | rfl⟩
                case round =>
                  obtain ⟨rfl, hwy⟩ := hrel
                  subst hwy
                  go_wp2_with fail
                  go_roundw
                  case rel => exact ⟨k + 1, by omega, by go_num, HBk, Lib.hid (by have h := HDk.out; rw [show rk L (rr L R t) (k + 1) = M from HX.out]; exact h)⟩
                  case measure => simp [intOf]; omega
              | true =>
                rw [hh] at HX
                go_upto_region 13 with fail
                go_loopw [9] (fun v wq => ∃ i : Nat, i ≤ s ∧ v = .int .i64 i ∧ Hid (Below w.heap.size w wq) ∧ Hid (wq.rowIs d 4 n (fun j => .bool (has (M ++ Q.take i) (j : Int))))) (fun v _ => s - (intOf v).toNat)
                case atStart => exact ⟨0, by omega, rfl, HBk, Lib.hid (by rw [List.take_zero, List.append_nil]; exact HDk.out)⟩
                case round =>
                  obtain ⟨i, his, rfl, HBi, HDi⟩ := hrel
                  have hck := (HBi.out.cell (p := ⟨pb, poff + k, none⟩) hpb).trans HCK.out
                  have hcd := HDi.out.cell hkn
                  rw [show has (M ++ Q.take i) (k : Int) = true from has_iff.2 (List.mem_append_left _ (has_iff.1 hh))] at hcd
                  by_cases hil : i < s
                  · have hil' : (i : Int) < s := by omega
                    have d0 : decide ((i : Int) < (s : Int)) = true := by simp [hil]
                    obtain ⟨b2, o2, e2, hci⟩ := (HQO.out.on HBi.out).at hil
                    subst e2
                    have hfr := HFK.out (Q.getD i 0) (getD_mem2 (by rw [← HQL.out]; exact hil))
                    have HTk := Lib.hid (show Q.take (i + 1) = Q.take i ++ [Q.getD i 0] by
                      rw [List.take_succ_eq_append_getElem (by rw [← HQL.out]; exact hil)]
                      rw [getD_lt (by rw [← HQL.out]; exact hil)])
                    obtain ⟨x, hx0⟩ : ∃ x : Nat, Q.getD i 0 = (x : Int) := ⟨(Q.getD i 0).toNat, by omega⟩
                    rw [hx0] at hci hfr HTk
                    have hxn : x < n := by have := HN.out; omega
                    have hxn' : (x : Int) < n := by omega
                    have hcx := HDi.out.cell hxn
                    have hfx := HDi.out.frozen x
                    clear hx0 hfr
                    go_wp2_with fail
                    go_roundw
                    case rel => exact ⟨i + 1, by omega, by go_num, Lib.hid (HBi.out.setCell HGD.out _), Lib.hid (by rw [HTk.out, ← List.append_assoc]; exact row_did HDi.out)⟩
                    case measure => simp [intOf]; omega
                  · have hge : ¬ (i : Int) < s := by omega
                    have d0 : decide ((i : Int) < (s : Int)) = false := by simp; omega
                    have HD9 := Lib.hid (show wr.rowIs d 4 n (fun j => .bool (has (rk L (rr L R t) (k + 1)) (j : Int))) by
                      have h := HDi.out
                      rw [show Q.take i = Q from List.take_of_length_le (by rw [← HQL.out]; omega)] at h
                      rw [show rk L (rr L R t) (k + 1) = M ++ Q from HX.out]
                      exact h)
                    go_wp2_with fail
                    go_roundw
                    case rel => exact ⟨k + 1, by omega, by go_num, HBi, HD9⟩
                    case measure => simp [intOf]; omega
            · have hge : ¬ (k : Int) < n := by omega
              have hkn2 : k = n := by omega
              have HD9 := Lib.hid (show wr.rowIs d 4 n (fun i => .bool (has (rr L R (t + 1)) (i : Int))) by
                have h := HDk.out
                rw [hkn2] at h
                show wr.rowIs d 4 n (fun i => .bool (has (rk L (rr L R t) L.length) (i : Int)))
                rw [← HN.out]
                exact h)
              clear hkn2
              go_wp2_with fail
              go_roundw
              case rel => exact ⟨t + 1, by omega, by go_num, HBk, HD9⟩
              case measure => simp [intOf]; omega
        · have hge : ¬ (t : Int) < n := by omega
          have ht' : t = n := by omega
          subst ht'
          have hcall := rdones_any d t L (rr L R t) 4 wr hn4 HDt.out
          go_wp2_with (go_at_call 25; refine hcall.mono ?_; rintro e y9 ⟨⟨v, rfl, hown⟩, hb9⟩)
          go_ret
          exact ⟨⟨_, rfl, own_mono hown HBt.out.size⟩, HBt.out.trans (hb9.mono HBt.out.size)⟩
end Go.Proofs.Ytndpidmbfdpiaaa.Pn
