/- PlanEnds (zoetropelaw25), the walk: in the order each step stands once, behind all that it needs; whoever picks among those that may be done comes to the end of all. -/
import Derived.Test.YtndpidmbfdpiaaaPnn
namespace Go.Proofs.Ytndpidmbfdpiaaa.planEndsW
open Go Go.RowKit Go.Proofs.Ytndpidmbfdpiaaa Go.Proofs.Ytndpidmbfdpiaaa.Au Go.Proofs.Ytndpidmbfdpiaaa.Re Go.Proofs.Ytndpidmbfdpiaaa.Pn
set_option linter.unusedVariables false
set_option linter.unusedSimpArgs false

theorem light_len {L : List (List Int)} (h : lightB L = true) : L.length ≤ 40 := by
  unfold lightB at h
  simp only [Bool.and_eq_true, decide_eq_true_eq] at h
  exact h.2

theorem ready_full {L : List (List Int)} {out : List Int} (h : Ok L out) (hl : out.length = L.length) : ready L out L.length = [] := by
  have h2 : (List.range L.length).filter (may L out) = [] := by
    rw [List.filter_eq_nil_iff]
    intro x hx
    have := first_none (ok_full h hl) x (by simpa using hx)
    rw [this]
    decide
  unfold ready
  rw [h2]
  rfl

set_option maxHeartbeats 8000000 in
set_option maxRecDepth 100000 in
theorem walk (a : Option Addr) (n c : Nat) (L : List (List Int)) (b : Option Addr) (m bc : Nat) (ps : List Int) (w : World) (hP : PAt w a n L) (hps : Ls.IsRow .i64 w b m ps) :
    Calls Try.prog 5 #[.slice a n c, .slice b m bc] w fun e w' => e = .returned (.bool true) ∧ Below w.heap.size w w' := by
  have hn := hP.1
  have HP := Lib.hid hP
  have HN := Lib.hid hn
  have HPS := Lib.hid hps
  have hlight := light_any a c n L w hn hP
  have hord := order_any a c n L w hn hP
  clear hn hP hps
  cases hl : lightB L with
  | false =>
    rw [hl] at hlight
    go_enter Try.func5, Try.ntmps5
    go_wp2_with (first
      | (go_at_call 6; refine hlight.mono ?_; rintro e ww ⟨rfl, rfl⟩)
      | (go_at_call 7; refine (awake_any _).mono ?_; rintro e y1 ⟨rfl, hb1⟩))
    go_ret
    exact ⟨rfl, hb1⟩
  | true =>
    rw [hl] at hlight
    have hn40 : n ≤ 40 := by have := light_len hl; have := HN.out; omega
    clear hl
    by_cases h0 : chk L = 0
    · have hO : ordL L = ord L n := by unfold ordL; rw [if_pos h0, ← HN.out]
      have HW := Lib.hid (whole_ord (chk_full h0))
      rw [← HN.out] at HW
      rw [h0, hO] at hord
      have hlen : (ord L n).length = n := by rw [HW.out.len, HN.out]
      rw [hlen] at hord
      obtain ⟨o, ho⟩ : ∃ o, o = ord L n := ⟨_, rfl⟩
      rw [← ho] at hord HW hlen
      have HLo := Lib.hid hlen
      clear ho hO h0 hlen
      have hmk1 := fun w => run_make_row' (P := Try.prog) 28 3 (.int .i64 0) 8 Try.underlying28 infoN' rfl .i64 .i64 n (by omega) (by omega) w
      have hmk2 := fun w => run_make_row' (P := Try.prog) 39 4 (.bool false) 1 Try.underlying39 infoB rfl .i64 .i64 n (by omega) (by omega) w
      go_enter Try.func5, Try.ntmps5
      go_upto_region 7 with (first
        | (go_at_call 6; refine hlight.mono ?_; rintro e ww ⟨rfl, rfl⟩)
        | (go_at_call 9; refine hord.mono ?_; rintro e y1 ⟨⟨v, rfl, hown⟩, hb1⟩; obtain ⟨va, vc, rfl⟩ := own_form hown))
      have HB1 := Lib.hid hb1
      have HOW := Lib.hid hown
      clear hown hlight hord
      go_upto_region 8 with fail
      have hb2 := Ve.below_n1 y1 (.cells (madeCells #[.int .i64 0] n) 3)
      have hri := World.rowIs_made y1 (.int .i64 0) n 3
      obtain ⟨y2, hy2⟩ : ∃ y, y1.alloc (.cells (madeCells #[.int .i64 0] n) 3) = y := ⟨_, rfl⟩
      obtain ⟨g, hg⟩ : ∃ q, q = y1.heap.size := ⟨_, rfl⟩
      rw [hy2] at hb2 hri ⊢
      rw [← hg] at hri ⊢
      have HG1 := Lib.hid (show y1.heap.size ≤ g by omega)
      have HBY := Lib.hid hb2
      have HRI := Lib.hid (show y2.rowIs g 3 n (fun j => .int .i64 ((atL L o 0).getD j 0)) from hri.congr fun j hj => by rw [atL_zero]; simp [List.getD, List.getElem?_replicate, show j < L.length by rw [← HN.out]; exact hj])
      clear hb2 hri hy2 hg hmk1 hb1
      go_upto_region 9 with fail
      go_loopw [37] (fun v wr => ∃ k : Nat, k ≤ n ∧ v = .int .i64 k ∧ Hid (Below y1.heap.size y1 wr) ∧ Hid (wr.rowIs g 3 n (fun j => .int .i64 ((atL L o k).getD j 0)))) (fun v _ => n - (intOf v).toNat)
      case atStart => exact ⟨0, by omega, rfl, HBY, HRI⟩
      case round =>
        obtain ⟨k, hk, rfl, HB, HR⟩ := hrel
        by_cases hlt : k < n
        · have hlt' : (k : Int) < n := by omega
          have hko : k < o.length := by rw [HLo.out]; exact hlt
          obtain ⟨ob, hob, _, hobl, hocell, _⟩ := own_cell (Ls.own_below HOW.out HB.out) hlt
          subst hob
          have hr0 := HW.out.ok.2 (o.getD k 0) (getD_mem' hko)
          obtain ⟨q, hq0⟩ : ∃ q : Nat, o.getD k 0 = (q : Int) := ⟨(o.getD k 0).toNat, by omega⟩
          rw [hq0] at hocell hr0
          have HQ := Lib.hid hq0
          have hq : q < n := by have := HN.out; omega
          have hq' : (q : Int) < n := by omega
          have hc1 := HR.out.cell hq
          have hf1 := HR.out.frozen q
          rw [atL_get (by rw [← HN.out]; exact hq)] at hc1
          have hbd := pos_bound o (q : Int) k
          have hkk : k * k ≤ 1600 := Nat.le_trans (Nat.mul_le_mul (show k ≤ 40 by omega) (show k ≤ 40 by omega)) (by decide)
          obtain ⟨X, hX⟩ : ∃ X, X = pos o k (q : Int) := ⟨_, rfl⟩
          rw [← hX] at hc1 hbd
          have HX := Lib.hid hX
          clear hX hq0
          go_upto_region 12 with fail
          go_wp2_with fail
          go_roundw
          case rel =>
            refine ⟨k + 1, by omega, by go_num, Lib.hid (HB.out.setCell HG1.out _), Lib.hid ((HR.out.set q _).congr fun j hj => ?_)⟩
            have hs := atL_set (L := L) (l := o) (k := k) (n := q) (by rw [← HN.out]; exact hq) HQ.out
            rw [← hs]
            by_cases e : j = q
            · subst e
              rw [if_pos rfl, ← HX.out]
              simp [List.getD, atL_len, show j < L.length by rw [← HN.out]; exact hj]
            · rw [if_neg e]
              simp [List.getD, List.getElem?_set_ne (Ne.symm e)]
          case measure => simp [intOf]; omega
        · have hge : ¬ (k : Int) < n := by omega
          have hk' : k = n := by omega
          subst hk'
          have HST := Lib.hid (fun i hi => stand_lt HW.out.ok HW.out.len HW.out.bef i hi)
          rw [HLo.out] at HST
          obtain ⟨y2', hy2'⟩ : ∃ y, y = wr := ⟨_, rfl⟩
          rw [← hy2'] at HB HR ⊢
          have HWR := Lib.hid hy2'
          clear hy2'
          go_upto_region 14 with fail
          go_loopw [53] (fun v wr => ∃ i : Nat, i ≤ k ∧ v = .int .i64 i ∧ Hid (Below y2'.heap.size y2' wr)) (fun v _ => k - (intOf v).toNat)
          case atStart => exact ⟨0, by omega, rfl, Lib.hid (Below.refl _ _)⟩
          case round =>
            obtain ⟨i, hi, rfl, HBi⟩ := hrel
            have hgl := HR.out.lt
            by_cases hil : i < k
            · have hil' : (i : Int) < k := by omega
              obtain ⟨pb, poff, hpa, b', c', hcw, hro⟩ := HP.out.row hil
              subst hpa
              have hpb : pb < w.heap.size := by
                have := World.block_lt_of_cell? w _ hcw
                simpa using this
              have HBw := Lib.hid ((HB1.out.trans (HB.out.mono HB1.out.size)).trans (HBi.out.mono (Nat.le_trans HB1.out.size HB.out.size)))
              have hcell := (HBw.out.cell (p := ⟨pb, poff + i, none⟩) hpb).trans hcw
              have HRi := Lib.hid (HR.out.of_block (HBi.out.block g hgl))
              have hst := HST.out i (by have := HN.out; omega)
              have hc2 := HRi.out.cell hil
              rw [atL_get (by have := HN.out; omega)] at hc2
              have HND := Lib.hid hst.2
              have hY := hst.1
              generalize L[i]! = R at hcw hro hcell HND
              obtain ⟨r, hr⟩ : ∃ r, r = R.length := ⟨_, rfl⟩
              rw [← hr] at hcell hro
              have HRL := Lib.hid hr
              have HRO := Lib.hid hro
              have hrb := hro.len.2
              obtain ⟨Y, hYY⟩ : ∃ Y, Y = pos o k (i : Int) := ⟨_, rfl⟩
              rw [← hYY] at hc2 HND hY
              rw [← HN.out] at hY
              have d0 : decide (Y < 1) = false := by simp; omega
              have d1 : decide ((k : Int) < Y) = false := by simp; omega
              have HYE := Lib.hid hYY
              clear hr hro hcw hst hYY
              go_upto_region 19 with fail
              go_loopw [74] (fun v wq => ∃ j : Nat, j ≤ r ∧ v = .int .i64 j ∧ Hid (Below y2'.heap.size y2' wq)) (fun v _ => r - (intOf v).toNat)
              case atStart => exact ⟨0, by omega, rfl, HBi⟩
              case round =>
                obtain ⟨j, hj, rfl, HBq⟩ := hrel
                by_cases hjr : j < r
                · have hjr' : (j : Int) < r := by omega
                  obtain ⟨b2, o2, e2, hci⟩ := (HRO.out.on ((HB1.out.trans (HB.out.mono HB1.out.size)).trans (HBq.out.mono (Nat.le_trans HB1.out.size HB.out.size)))).at hjr
                  subst e2
                  have hnd := HND.out (R.getD j 0) (getD_mem' (by rw [← HRL.out]; exact hjr))
                  have HRq := Lib.hid (HR.out.of_block (HBq.out.block g hgl))
                  have hc2 := HRq.out.cell hil
                  rw [atL_get (by have := HN.out; omega)] at hc2
                  obtain ⟨s, hs0⟩ : ∃ s : Nat, R.getD j 0 = (s : Int) := ⟨(R.getD j 0).toNat, by omega⟩
                  rw [hs0] at hci hnd
                  have hsn : s < k := by have := HN.out; omega
                  have hsn' : (s : Int) < k := by omega
                  have hc1 := HRq.out.cell hsn
                  rw [atL_get (by have := HN.out; omega)] at hc1
                  have hlt2 := hnd.2
                  obtain ⟨X, hX⟩ : ∃ X, X = pos o k (s : Int) := ⟨_, rfl⟩
                  rw [← hX] at hc1 hlt2
                  have hYe : pos o k (i : Int) = Y := HYE.out.symm
                  rw [hYe] at hc2
                  have d2 : decide (Y ≤ X) = false := by simp; omega
                  clear hX hs0 hnd hYe
                  go_upto_region 21 with fail
                  refine wp_region_held_drew (S := fun y : World => y.cell? ⟨g, s, none⟩ = some (.int .i64 X) ∧ y.cell? ⟨g, i, none⟩ = some (.int .i64 Y)) (by kernel_rfl) (⟨hc1, hc2⟩) (fun hS0 => ?_)
                  refine wpAnyH_take (i := 0) (v := ?_) rfl (by kernel_rfl) (by kernel_rfl) (by kernel_rfl) (fun _ _ _ h => h) (Or.inl ⟨by kernel_rfl, by (intro wz hSz; go_simp; try with_reducible rfl)⟩) hS0 ?_
                  go_simp
                  refine wpAnyH_take (i := 1) (v := ?_) rfl (by kernel_rfl) (by kernel_rfl) (by kernel_rfl) (fun _ _ _ h => h) (Or.inl ⟨by kernel_rfl, by (intro wz hSz; go_simp; try with_reducible rfl)⟩) hS0 ?_
                  go_simp
                  refine wpAnyH_take (i := 2) (v := ?_) rfl (by kernel_rfl) (by kernel_rfl) (by kernel_rfl) (fun _ _ _ h => h) (Or.inl ⟨by kernel_rfl, by (intro wz hSz; go_simp; try with_reducible rfl)⟩) hS0 ?_
                  go_simp
                  refine wpAnyH_take (i := 3) (v := ?_) rfl (by kernel_rfl) (by kernel_rfl) (by kernel_rfl) (fun _ _ _ h => h) (Or.inl ⟨by kernel_rfl, by (intro wz hSz; have cq_ := hSz.1; go_simp; try with_reducible rfl)⟩) hS0 ?_
                  go_simp
                  refine wpAnyH_take (i := 4) (v := ?_) rfl (by kernel_rfl) (by kernel_rfl) (by kernel_rfl) (fun _ _ _ h => h) (Or.inl ⟨by kernel_rfl, by (intro wz hSz; go_simp; try with_reducible rfl)⟩) hS0 ?_
                  go_simp
                  refine wpAnyH_take (i := 5) (v := ?_) rfl (by kernel_rfl) (by kernel_rfl) (by kernel_rfl) (fun _ _ _ h => h) (Or.inl ⟨by kernel_rfl, by (intro wz hSz; go_simp; try with_reducible rfl)⟩) hS0 ?_
                  go_simp
                  refine wpAnyH_take (i := 6) (v := ?_) rfl (by kernel_rfl) (by kernel_rfl) (by kernel_rfl) (fun _ _ _ h => h) (Or.inl ⟨by kernel_rfl, by (intro wz hSz; go_simp; try with_reducible rfl)⟩) hS0 ?_
                  go_simp
                  refine wpAnyH_take (i := 7) (v := ?_) rfl (by kernel_rfl) (by kernel_rfl) (by kernel_rfl) (fun _ _ _ h => h) (Or.inl ⟨by kernel_rfl, by (intro wz hSz; have cs_ := hSz.2; go_simp; try with_reducible rfl)⟩) hS0 ?_
                  go_simp
                  refine wpAnyH_take (i := 8) (v := ?_) rfl (by kernel_rfl) (by kernel_rfl) (by kernel_rfl) (fun _ _ _ h => h) (Or.inl ⟨by kernel_rfl, by (intro wz hSz; go_simp; try with_reducible rfl)⟩) hS0 ?_
                  go_simp
                  refine wpAnyH_done (by kernel_rfl) ?_ _
                  obtain ⟨z0, hz0⟩ : ∃ y, wr.drew = y := ⟨_, rfl⟩
                  rw [hz0]
                  have HZ0 := Lib.hid (show Below y2'.heap.size y2' z0 by rw [← hz0]; exact HBq.out.drew)
                  clear hz0 hc1 hc2 hS0
                  go_wp2_with fail
                  go_roundw
                  case rel => exact ⟨j + 1, by omega, by go_num, HZ0⟩
                  case measure => simp [intOf]; omega
                · have hge : ¬ (j : Int) < r := by omega
                  have hj' : j = r := by omega
                  subst hj'
                  go_wp2_with fail
                  go_roundw
                  case rel => exact ⟨i + 1, by omega, by go_num, HBq⟩
                  case measure => simp [intOf]; omega
            · have hge : ¬ (i : Int) < k := by omega
              have hi' : i = k := by omega
              clear hi'
              go_upto_region 26 with fail
              clear hge hil hi
              have hbd := Ve.below_n1 wr (.cells (madeCells #[.bool false] k) 4)
              have hri := World.rowIs_made wr (.bool false) k 4
              obtain ⟨y5, hy5⟩ : ∃ y, wr.alloc (.cells (madeCells #[.bool false] k) 4) = y := ⟨_, rfl⟩
              obtain ⟨d, hd⟩ : ∃ q, q = wr.heap.size := ⟨_, rfl⟩
              rw [hy5] at hbd hri ⊢
              rw [← hd] at hri ⊢
              have HBw := (HB1.out.trans (HB.out.mono HB1.out.size)).trans (HBi.out.mono (Nat.le_trans HB1.out.size HB.out.size))
              have HGD := Lib.hid (show w.heap.size ≤ d by rw [hd]; exact HBw.size)
              have HB5 := Lib.hid (HBw.trans (hbd.mono HBw.size))
              have HB6 := Lib.hid ((HB.out.trans (HBi.out.mono HB.out.size)).trans (hbd.mono (Nat.le_trans HB.out.size HBi.out.size)))
              have HD5 := Lib.hid (show y5.rowIs d 4 k (fun i => .bool (has [] (i : Int))) from hri)
              clear hbd hri hy5 hd HBw hmk2
              go_upto_region 27 with fail
              go_loopw [94] (fun v wq => ∃ (i : Nat) (out : List Int), i ≤ k ∧ v = .int .i64 i ∧ Hid (Ok L out) ∧ Hid (out.length = i) ∧ Hid (Below w.heap.size w wq) ∧ Hid (wq.rowIs d 4 k (fun i => .bool (has out (i : Int))))) (fun v _ => k - (intOf v).toNat)
              case atStart => exact ⟨0, [], by omega, rfl, Lib.hid (ok_nil L), Lib.hid rfl, HB5, HD5⟩
              case round =>
                obtain ⟨i, out, hi, rfl, HOk, HLn, HBw, HDw⟩ := hrel
                have hrdy := ready_any a c d k L out 4 wr HN.out (HP.out.on HBw.out) HOk.out HDw.out
                obtain ⟨l, hl⟩ : ∃ l, l = ready L out k := ⟨_, rfl⟩
                rw [← hl] at hrdy
                obtain ⟨r, hr⟩ : ∃ r, r = l.length := ⟨_, rfl⟩
                rw [← hr] at hrdy
                have hrk : r ≤ k := by rw [hr, hl]; exact ready_len L out k
                have HLL := Lib.hid hl
                have HRr := Lib.hid hr
                clear hl hr
                by_cases hik : i < k
                · have hik' : (i : Int) < k := by omega
                  have hne := ready_some HW.out.ok HW.out.len HW.out.bef HOk.out (by rw [HLn.out, ← HN.out]; exact hik)
                  have hr0 : 0 < r := by
                    rcases Nat.eq_zero_or_pos r with h | h
                    · rw [← HN.out, ← HLL.out] at hne
                      exact absurd (List.eq_nil_of_length_eq_zero (by rw [← HRr.out]; exact h)) hne
                    · exact h
                  have hr0' : ¬ (r : Int) = 0 := by omega
                  have d3 : decide ((r : Int) = 0) = false := by simp; omega
                  clear hne
                  go_upto_region 33 with (go_at_call 17; refine hrdy.mono ?_; rintro e y7 ⟨⟨v, rfl, hown2⟩, hb7⟩; obtain ⟨va7, vc7, rfl⟩ := own_form hown2)
                  have HB7 := Lib.hid (HBw.out.trans (hb7.mono HBw.out.size))
                  have HD7 := Lib.hid (HDw.out.of_block (hb7.block d HDw.out.lt))
                  have HOW2 := Lib.hid hown2
                  clear hown2 hb7 hrdy
                  by_cases him : i < m
                  · have him' : (i : Int) < m := by omega
                    obtain ⟨pb2, po2, hpb2, hpl, _, _, hpc⟩ : ∃ b2 off2, b = some ⟨b2, off2, none⟩ ∧ b2 < w.heap.size ∧ m ≤ ps.length ∧ m * 8 ≤ 140737488351232 ∧ ∀ j, j < m → w.cell? ⟨b2, off2 + j, none⟩ = some (.int .i64 (ps.getD j 0)) := by
                      rcases HPS.out with h | h
                      · omega
                      · exact h
                    subst hpb2
                    have hci := (HB7.out.cell (p := ⟨pb2, po2 + i, none⟩) hpl).trans (hpc i him)
                    generalize ps.getD i 0 = x at hci
                    obtain ⟨U, hU⟩ : ∃ U : Nat, IntKind.u64.wrap x = (U : Int) := ⟨(x % 18446744073709551616).toNat, by rw [IntKind.wrap_u64]; omega⟩
                    have hU2 : U < 18446744073709551616 := by rw [IntKind.wrap_u64] at hU; omega
                    have hwr : IntKind.u64.wrap (r : Int) = (r : Int) := by rw [IntKind.wrap_u64]; omega
                    obtain ⟨t, htt⟩ : ∃ t : Nat, t = U % r := ⟨_, rfl⟩
                    have ht : t < r := by rw [htt]; exact Nat.mod_lt _ hr0
                    have e2 : (U : Int) % (r : Int) = (t : Int) := by rw [htt]; exact (Int.natCast_emod U r).symm
                    have e3 : (U : Int).tmod (r : Int) = (t : Int) := by rw [Int.tmod_eq_emod_of_nonneg (by omega)]; exact e2
                    have w2 : IntKind.u64.wrap (t : Int) = (t : Int) := by rw [IntKind.wrap_u64]; omega
                    have w3 : IntKind.i64.wrap (t : Int) = (t : Int) := by rw [IntKind.wrap_i64]; omega
                    clear htt
                    go_upto_region 35 with fail
                    have ht' : (t : Int) < r := by omega
                    obtain ⟨rb, hrb, _, hrbl, hrcell, _⟩ := own_cell HOW2.out ht
                    subst hrb
                    obtain ⟨q, hq0, hqn, hqm⟩ := ready_mem (show l.getD t 0 ∈ ready L out k from by rw [← HLL.out]; exact getD_mem' (by rw [← HRr.out]; exact ht))
                    rw [hq0] at hrcell
                    have hqn' : (q : Int) < k := by omega
                    have hcq := HD7.out.cell hqn
                    have hfq := HD7.out.frozen q
                    have hOk2 := Lib.hid (ok_add HOk.out (n := q) (by rw [← HN.out]; exact hqn) (may_has hqm))
                    clear hq0 hqm
                    go_upto_region 36 with fail
                    go_wp2_with fail
                    go_roundw
                    case rel => exact ⟨i + 1, out ++ [(q : Int)], by omega, by go_num, hOk2, Lib.hid (by rw [List.length_append, HLn.out]; rfl), Lib.hid (HB7.out.setCell HGD.out _), Lib.hid (row_did HD7.out)⟩
                    case measure => simp [intOf]; omega
                  · have him' : ¬ (i : Int) < m := by omega
                    have ht : 0 < r := hr0
                    go_upto_region 35 with fail
                    have ht' : (0 : Int) < r := by omega
                    obtain ⟨rb, hrb, _, hrbl, hrcell, _⟩ := own_cell HOW2.out ht
                    subst hrb
                    obtain ⟨q, hq0, hqn, hqm⟩ := ready_mem (show l.getD 0 0 ∈ ready L out k from by rw [← HLL.out]; exact getD_mem' (by rw [← HRr.out]; exact ht))
                    rw [hq0] at hrcell
                    have hqn' : (q : Int) < k := by omega
                    have hcq := HD7.out.cell hqn
                    have hfq := HD7.out.frozen q
                    have hOk2 := Lib.hid (ok_add HOk.out (n := q) (by rw [← HN.out]; exact hqn) (may_has hqm))
                    clear hq0 hqm
                    go_upto_region 36 with fail
                    go_wp2_with fail
                    go_roundw
                    case rel => exact ⟨i + 1, out ++ [(q : Int)], by omega, by go_num, hOk2, Lib.hid (by rw [List.length_append, HLn.out]; rfl), Lib.hid (HB7.out.setCell HGD.out _), Lib.hid (row_did HD7.out)⟩
                    case measure => simp [intOf]; omega
                · have hge : ¬ (i : Int) < k := by omega
                  have hi' : i = k := by omega
                  have hlo : out.length = L.length := by rw [HLn.out, hi', HN.out]
                  have hfull := ready_full HOk.out hlo
                  rw [← HN.out] at hfull
                  have hrdy2 : ∀ y, Below wr.heap.size wr y → Calls Try.prog 17 #[.slice a k c, .slice (some ⟨d, 0, none⟩) k k] y fun e w' => (∃ v, e = .returned v ∧ w'.ownsRow y.heap.size 3 1 v 0 []) ∧ Below y.heap.size y w' := by
                    intro y hb
                    have := ready_any a c d k L out 4 y HN.out ((HP.out.on HBw.out).on (hb.mono (Nat.le_refl _))) HOk.out (HDw.out.of_block (hb.block d HDw.out.lt))
                    rw [hfull] at this
                    exact this
                  clear hi' hlo hfull hrdy
                  go_wp2_with (first
                    | (go_at_call 7; refine (awake_any _).mono ?_; rintro e y8 ⟨rfl, hb8⟩)
                    | (go_at_call 17; refine (hrdy2 y8 hb8).mono ?_; rintro e y9 ⟨⟨v9, rfl, hown9⟩, hb9⟩; obtain ⟨va9, vc9, rfl⟩ := own_form hown9))
                  go_ret
                  exact ⟨rfl, HBw.out.trans ((hb8.trans (hb9.mono hb8.size)).mono HBw.out.size)⟩
    · have d0 : decide (chk L = 0) = false := by simp [h0]
      obtain ⟨E, hE⟩ : ∃ E, E = chk L := ⟨_, rfl⟩
      rw [← hE] at hord h0 d0
      clear hE
      go_enter Try.func5, Try.ntmps5
      go_wp2_with (first
        | (go_at_call 6; refine hlight.mono ?_; rintro e ww ⟨rfl, rfl⟩)
        | (go_at_call 9; refine hord.mono ?_; rintro e y1 ⟨⟨v, rfl, hown⟩, hb1⟩; obtain ⟨va, vc, rfl⟩ := own_form hown)
        | (go_at_call 7; refine (awake_any _).mono ?_; rintro e y2 ⟨rfl, hb2⟩))
      go_ret
      exact ⟨rfl, hb1.trans (hb2.mono hb1.size)⟩
end Go.Proofs.Ytndpidmbfdpiaaa.planEndsW
