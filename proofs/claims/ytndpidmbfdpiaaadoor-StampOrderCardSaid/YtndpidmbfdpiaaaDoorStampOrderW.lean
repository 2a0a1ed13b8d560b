/- StampOrder (zoetropelaw26), the walk: the plan of a job's works may be, and its order is just theirs, one behind the other. -/
import Derived.Test.YtndpidmbfdpiaaaDoorStg
import Derived.Test.YtndpidmbfdpiaaaDoorSth
namespace Go.Proofs.YtndpidmbfdpiaaaDoor.stampOrderW
open Go Go.RowKit Go.Proofs.YtndpidmbfdpiaaaDoor Go.Proofs.YtndpidmbfdpiaaaDoor.Au Go.Proofs.YtndpidmbfdpiaaaDoor.Re Go.Proofs.YtndpidmbfdpiaaaDoor.Se Go.Proofs.YtndpidmbfdpiaaaDoor.Pn Go.Proofs.YtndpidmbfdpiaaaDoor.St
set_option linter.unusedVariables false
set_option linter.unusedSimpArgs false

theorem info32u {D : Array Value} (h : D.size = 32) : (Tryd.prog.info? 26).map (·.size) = some D.size := by rw [h]; kernel_rfl

set_option maxHeartbeats 8000000 in
set_option maxRecDepth 100000 in
theorem walk (job : List UInt8) (F : Int) (w : World) (hj : job.length = 32) (hT : Tabs w) :
    Calls Tryd.prog 5 #[.agg (vals job).toArray, .int .i64 F] w fun e w' => e = .returned (.bool true) ∧ Below w.heap.size w w' := by
  have HT := Lib.hid hT
  obtain ⟨J, hJ⟩ : ∃ J, J = (vals job).toArray := ⟨_, rfl⟩
  have hJs : J.size = 32 := by rw [hJ]; simp [vals_length, hj]
  have hr0 := heap_alloc_last w (.cells J 26)
  have hb0 := Ve.below_n1 w (.cells J 26)
  obtain ⟨y0, hy0⟩ : ∃ y, w.alloc (.cells J 26) = y := ⟨_, rfl⟩
  obtain ⟨P, hP⟩ : ∃ P, P = w.heap.size := ⟨_, rfl⟩
  rw [hy0] at hr0 hb0
  rw [← hP] at hr0
  have hw := works_any job hj F y0 (hT.on hb0)
  rw [← hJ] at hw ⊢
  have HPW := Lib.hid hP
  have HR0 := Lib.hid hr0
  have HB0 := Lib.hid hb0
  have HY0 := Lib.hid hy0
  have HSJ := Lib.hid (show (Tryd.prog.info? 26).map (·.size) = some J.size from info32u hJs)
  obtain ⟨N, hN⟩ : ∃ N, N = 4 * framesN F := ⟨_, rfl⟩
  have hN128 : N ≤ 128 := by have := framesN_le F; omega
  rw [← hN] at hw
  clear hr0 hb0 hy0 hP hJ hT hj hJs hN
  go_enter Tryd.func5, Tryd.ntmps5
  go_upto_region 1 with fail
  rw [HY0.out, ← HPW.out]
  go_upto_region 2 with (first
    | (with_reducible refine wpList_load_row rfl 26 (.tmp 2) rfl P rfl 26 J (0, 0) _ HR0.out Tryd.underlying26 rfl HSJ.out ?_)
    | (go_at_call 14; refine hw.mono ?_; rintro e y1 ⟨a, c, vs, rfl, y9, hb9, hW⟩))
  have HW := Lib.hid hW
  have HB1 := Lib.hid (HB0.out.trans ((hW.low hb9).mono HB0.out.size))
  have hpl := plan_any y9 job a N c vs y1 hW (by omega)
  clear hW hb9 hw
  go_upto_region 3 with (first
    | (go_at_call 16; refine hpl.mono ?_; rintro e y2 ⟨⟨pb, rfl, hPA⟩, hb2⟩; have hord := order_any (some ⟨pb, 0, none⟩) N N (needsOf N) y2 (needsOf_len N).symm hPA; rw [chk_works N (by omega), ordL_works N (by omega), upto_len] at hord)
    | (go_at_call 19; refine hord.mono ?_; rintro e y3 ⟨⟨v, rfl, hown⟩, hb3⟩; obtain ⟨va, vc, rfl⟩ := own_form hown))
  have HB3 := Lib.hid ((HB1.out.trans (hb2.mono HB1.out.size)).trans (hb3.mono (by have := HB1.out.size; have := hb2.size; omega)))
  have HW3 := Lib.hid (HW.out.on (hb2.trans (hb3.mono hb2.size)))
  have HO3 := Lib.hid hown
  clear hown hb2 hb3 hpl hord hPA
  go_upto_region 6 with fail
  go_loopw [32] (fun v wr => ∃ i : Nat, i ≤ N ∧ v = .int .i64 i ∧ y3 = wr) (fun v _ => N - (intOf v).toNat)
  case atStart => exact ⟨0, by omega, rfl, by first | trivial | rfl⟩
  case round =>
    obtain ⟨i, hi, rfl, hwy⟩ := hrel
    subst hwy
    by_cases hlt : i < N
    · have hlt' : (i : Int) < N := by omega
      obtain ⟨ob, hob, _, _, hoc, _⟩ := own_cell HO3.out hlt
      subst hob
      rw [upto_get hlt] at hoc
      obtain ⟨q, hqa, hqw, hrg, hcn, hro⟩ := HW3.out.at hlt
      subst hqa
      obtain ⟨na, nc, hform⟩ := hro.form
      rw [hform] at hcn hro
      have hnlt := need_lt i
      obtain ⟨L, hL⟩ : ∃ L, L = needM i := ⟨_, rfl⟩
      rw [← hL] at hcn hro hnlt
      obtain ⟨r, hr⟩ : ∃ r, r = L.length := ⟨_, rfl⟩
      rw [← hr] at hcn hro
      have HRO := Lib.hid hro
      have HRL := Lib.hid hr
      have HNL := Lib.hid hnlt
      have hrb := hro.len.2
      clear hrg hform hro hL hr hnlt
      go_upto_region 11 with fail
      go_loopw [46] (fun v wq => ∃ j : Nat, j ≤ r ∧ v = .int .i64 j ∧ y3 = wq) (fun v _ => r - (intOf v).toNat)
      case atStart => exact ⟨0, by omega, rfl, by first | trivial | rfl⟩
      case round =>
        obtain ⟨j, hj, rfl, hwz⟩ := hrel
        subst hwz
        by_cases hjr : j < r
        · have hjr' : (j : Int) < r := by omega
          obtain ⟨b2, o2, e2, hci⟩ := HRO.out.at hjr
          subst e2
          have hx := HNL.out (L.getD j 0) (by
            have : j < L.length := by rw [← HRL.out]; exact hjr
            simp only [List.getD, List.getElem?_eq_getElem this, Option.getD_some]
            exact List.getElem_mem _)
          generalize L.getD j 0 = x at hci hx
          have d0 : decide ((i : Int) ≤ x) = false := by simp; omega
          go_wp2_with fail
          go_roundw
          case rel => exact ⟨j + 1, by omega, by go_num, by first | trivial | rfl⟩
          case measure => simp [intOf]; omega
        · have hge : ¬ (j : Int) < r := by omega
          go_wp2_with fail
          go_roundw
          case rel => exact ⟨i + 1, by omega, by go_num, by first | trivial | rfl⟩
          case measure => simp [intOf]; omega
    · have hge : ¬ (i : Int) < N := by omega
      have haw := awake_any y3 (HT.out.on HB3.out)
      go_wp2_with (go_at_call 6; refine haw.mono ?_; rintro e y4 ⟨rfl, hb4⟩)
      go_ret
      exact ⟨rfl, HB3.out.trans (hb4.mono HB3.out.size)⟩
end Go.Proofs.YtndpidmbfdpiaaaDoor.stampOrderW
