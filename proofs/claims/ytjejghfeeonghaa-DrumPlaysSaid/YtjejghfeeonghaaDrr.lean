/- Layer 23: the document's Read and Write. -/
import Derived.Test.YtjejghfeeonghaaDrq
import Derived.Test.YtjejghfeeonghaaDrd
import Derived.Test.YtjejghfeeonghaaLr
namespace Go.Proofs.Ytjejghfeeonghaa.Dr
open Go Go.RowKit Go.Maps Go.Proofs.Ytjejghfeeonghaa Go.Proofs.Ytjejghfeeonghaa.Au Go.Proofs.Ytjejghfeeonghaa.Re
set_option linter.unusedVariables false
set_option linter.unusedSimpArgs false

theorem yieldsIf_ent {ops : Array Oper} {S : World → Prop} {op : Oper} {a : Act} (hw : Region.wanted op (yielded ops a.tmps) = true) (x y : Operand) (ho : op.op = .build 64 #[(0, x), (1, y)])
    (k : Int) (R : Array Value) (hR : R.size = 128) (hx : a.eval x = .int .i64 k) (hy : a.eval y = .agg R) : YieldsIf Try.prog ops S op (.agg (.int .i64 k :: R.toList).toArray) a :=
  .inl ⟨hw, fun w _ => by
    unfold execOp
    simp only [ho, List.map_toArray, List.map_cons, List.map_nil, hx, hy, Sem.run_bind]
    rw [run_build w 64 _ _ (built_ent k R hR)]
    rfl⟩

theorem vread_loose {s : Dst} {k : Nat} (hd : s.down = false) (hk : k < s.n) {x : Bk} (hf : findM s.M k = some x) : vRead s k = x := by
  have e : eAt s k = 0 := by unfold eAt; rw [hd, if_neg (by simp), if_pos ⟨by omega, by omega⟩]
  unfold vRead
  rw [if_neg (by simp [e]), hf]

theorem vread_last {s : Dst} {k : Nat} (hd : s.down = false) (hk : k < s.n) (hf : findM s.M k = none) : vRead s k = s.L.getD k zB := by
  have e : eAt s k = 0 := by unfold eAt; rw [hd, if_neg (by simp), if_pos ⟨by omega, by omega⟩]
  unfold vRead
  rw [if_neg (by simp [e]), hf]
  simp

set_option maxHeartbeats 4000000 in
set_option maxRecDepth 100000 in
theorem rread_bad (h : Nat) (aS : Option Addr) (cS : Nat) (aM : Option Addr) (cM : Nat) (S : List E1) (s : Dst) (w : World) (hr : RAt w h aS cS aM cM S s) (k : Int) (he : eAt s k ≠ 0) : Calls Try.prog 12 #[.pointer (some ⟨h, 0, none⟩), .int .i64 k] w fun e w' => e = .returned (.tuple #[.agg ZB, .int .i64 (eAt s k)]) ∧ Below w.heap.size w w' := by
  have hzv := zeroVR
  have hzs := ZB_size
  have hr1 := heap_alloc_last w (.cells ZB 30)
  have hb1 := Ve.below_n1 w (.cells ZB 30)
  have HD := Lib.hid (hr.on hb1)
  clear hr
  obtain ⟨y1, hy1⟩ : ∃ y, w.alloc (.cells ZB 30) = y := ⟨_, rfl⟩
  obtain ⟨r, hr⟩ : ∃ r, r = w.heap.size := ⟨_, rfl⟩
  have hrw : w.heap.size ≤ r := by omega
  have c0 := cell_of_row _ _ 0 _ _ _ HD.out.dev
  have c5 := cell_of_row _ _ 5 _ _ _ HD.out.dev
  rw [hy1] at hb1 hr1 c0 c5
  rw [← hr] at hr1
  simp at c0 c5
  have HR := Lib.hid hr1
  have HB := Lib.hid hb1
  have HY := Lib.hid hy1
  have HRR := Lib.hid hr
  clear hr1 hb1 hy1 hr HD
  have HIA := Lib.hid (infoT128 ZB_size)
  have HOO := Lib.hid ZB_one
  have HQ := Lib.hid (setRow_heap y1 r _ ZB _ _ HR.out)
  have HQB := Lib.hid (below_setRow (g := r) HB.out hrw ZB)
  cases hd : s.down with
  | true =>
    have ha : eAt s k = 5 := by simp [eAt, hd]
    rw [ha]
    rw [hd] at c5
    clear hd he ha
    go_enter Try.func12, Try.ntmps12
    go_upto_region 1 with fail
    rw [HY.out, ← HRR.out]
    go_wp2_with (refine Au.wpList_store_row rfl 30 (.tmp 4) (.tmp 12) rfl y1 ZB ZB r 30 HR.out rfl rfl HIA.out rfl HOO.out ?_)
    obtain ⟨y9, hy9⟩ : ∃ y, y1.setRow r ZB = y := ⟨_, rfl⟩
    rw [hy9] at HQ HQB ⊢
    refine bodyPost_ret (results_row2 rfl rfl rfl HQ.out Try.underlying30 rfl HIA.out) rfl ?_
    exact ⟨rfl, HQB.out⟩
  | false =>
    rw [hd] at c5
    have hk : ¬ (0 ≤ k ∧ k < s.n) := fun e => by unfold eAt at he; rw [hd, if_neg (by simp), if_pos e] at he; exact he rfl
    have ha : eAt s k = 1 := by unfold eAt; rw [hd, if_neg (by simp), if_neg hk]
    rw [ha]
    clear hd he ha
    by_cases h0 : k < 0
    · have d0 : decide (k < 0) = true := by simp [h0]
      clear hk
      go_enter Try.func12, Try.ntmps12
      go_upto_region 1 with fail
      rw [HY.out, ← HRR.out]
      go_wp2_with (refine Au.wpList_store_row rfl 30 (.tmp 4) (.tmp 23) rfl y1 ZB ZB r 30 HR.out rfl rfl HIA.out rfl HOO.out ?_)
      obtain ⟨y9, hy9⟩ : ∃ y, y1.setRow r ZB = y := ⟨_, rfl⟩
      rw [hy9] at HQ HQB ⊢
      refine bodyPost_ret (results_row2 rfl rfl rfl HQ.out Try.underlying30 rfl HIA.out) rfl ?_
      exact ⟨rfl, HQB.out⟩
    · have d0 : decide (k < 0) = false := by simp; omega
      have d1 : decide ((s.n : Int) ≤ k) = true := by simp; omega
      clear hk
      go_enter Try.func12, Try.ntmps12
      go_upto_region 1 with fail
      rw [HY.out, ← HRR.out]
      go_wp2_with (refine Au.wpList_store_row rfl 30 (.tmp 4) (.tmp 23) rfl y1 ZB ZB r 30 HR.out rfl rfl HIA.out rfl HOO.out ?_)
      obtain ⟨y9, hy9⟩ : ∃ y, y1.setRow r ZB = y := ⟨_, rfl⟩
      rw [hy9] at HQ HQB ⊢
      refine bodyPost_ret (results_row2 rfl rfl rfl HQ.out Try.underlying30 rfl HIA.out) rfl ?_
      exact ⟨rfl, HQB.out⟩

set_option maxHeartbeats 4000000 in
set_option maxRecDepth 100000 in
theorem rread_good (h : Nat) (aS : Option Addr) (cS : Nat) (aM : Option Addr) (cM : Nat) (S : List E1) (s : Dst) (w : World) (hr : RAt w h aS cS aM cM S s) (k : Nat) (hk : k < s.n) (hd : s.down = false) : Calls Try.prog 12 #[.pointer (some ⟨h, 0, none⟩), .int .i64 k] w fun e w' => e = .returned (.tuple #[bv (vRead s k), .int .i64 0]) ∧ Below w.heap.size w w' := by
  have hzv := zeroVR
  have hzs := ZB_size
  have hr1 := heap_alloc_last w (.cells ZB 30)
  have hb1 := Ve.below_n1 w (.cells ZB 30)
  have HD := Lib.hid (hr.on hb1)
  clear hr
  obtain ⟨y1, hy1⟩ : ∃ y, w.alloc (.cells ZB 30) = y := ⟨_, rfl⟩
  obtain ⟨r, hr⟩ : ∃ r, r = w.heap.size := ⟨_, rfl⟩
  have hrw : w.heap.size ≤ r := by omega
  have c0 := cell_of_row _ _ 0 _ _ _ HD.out.dev
  have c2 := cell_of_row _ _ 2 _ _ _ HD.out.dev
  have c5 := cell_of_row _ _ 5 _ _ _ HD.out.dev
  rw [hy1] at hb1 hr1 c0 c5 c2 HD
  rw [← hr] at hr1
  simp at c0 c5 c2
  rw [hd] at c5
  have HR := Lib.hid hr1
  have HB := Lib.hid hb1
  have HY := Lib.hid hy1
  have HRR := Lib.hid hr
  clear hr1 hb1 hy1 hr
  have d0 : decide ((k : Int) < 0) = false := decide_eq_false (by omega)
  have d1 : decide ((s.n : Int) ≤ (k : Int)) = false := decide_eq_false (by omega)
  have d2 : decide (s.n ≤ k) = false := decide_eq_false (by omega)
  have d3 : ¬ (s.n : Int) ≤ (k : Int) := by omega
  have HIA := Lib.hid (infoT128 ZB_size)
  have HKK := Lib.hid hk
  have HDD := Lib.hid hd
  clear hk hd
  obtain ⟨aM', kM, e1, hRL⟩ := HD.out.loose.open HD.out.okM.b128
  cases e1
  have HFC := Lib.hid (rfind_any aM cM s.M k y1 hRL HD.out.okM.b128 (by have := HD.out.okM.len; have := HD.out.n0; omega))
  clear hRL
  obtain ⟨x, hx⟩ : ∃ x, x = (findM s.M k).getD zB := ⟨_, rfl⟩
  obtain ⟨b, hb⟩ : ∃ b, b = (findM s.M k).isSome := ⟨_, rfl⟩
  rw [← hx, ← hb] at HFC
  have hxl : x.length = 128 := by
    rw [hx]
    cases hf : findM s.M k with
    | none => exact zB_len
    | some z => exact HD.out.okM.b128 _ (find_mem hf)
  obtain ⟨R, HRE⟩ : ∃ R, Hid (R = (vals x).toArray) := ⟨_, Lib.hid rfl⟩
  have hRs : R.size = 128 := by rw [HRE.out]; simp [vals_length]; exact hxl
  rw [show bv x = .agg R by rw [HRE.out]; rfl] at HFC
  have HIR := Lib.hid (infoT128 hRs)
  have HZR := Lib.hid (show ZB.size = R.size by rw [hRs]; exact ZB_size)
  have HOR := Lib.hid (show R.all (·.oneCell') = true by rw [HRE.out]; exact all_oneCell_toArray (vals_one _))
  have HX := Lib.hid hx
  have HBB := Lib.hid hb
  clear hx hb hxl hRs
  go_enter Try.func12, Try.ntmps12
  go_upto_region 1 with fail
  rw [HY.out, ← HRR.out]
  go_wp2_with fail
  refine HFC.out.mono ?_
  rintro e y2 ⟨rfl, hb2⟩
  have HD2 := Lib.hid (HD.out.on hb2)
  have HR2 := Lib.hid ((hb2.block r (lt_heap HR.out)).trans HR.out)
  have HB2 := Lib.hid (HB.out.trans (hb2.mono HB.out.size))
  have hr2 := lt_heap HR2.out
  clear hb2 HD HR HB HFC c0 c2 c5 HY
  have HAL := Lib.hid (heap_alloc_last y2 (.cells ZB 30))
  have hbn := Ve.below_n1 y2 (.cells ZB 30)
  have hbs := below_setRow (g := y2.heap.size) hbn (Nat.le_refl _) R
  have HQ3 := setRow_heap _ (y2.heap.size) _ R _ _ HAL.out
  obtain ⟨y3, hy3⟩ : ∃ y, (y2.alloc (.cells ZB 30)).setRow y2.heap.size R = y := ⟨_, rfl⟩
  have HY3 := Lib.hid hy3
  rw [hy3] at hbs HQ3
  have HD3 := Lib.hid (HD2.out.on hbs)
  have HR3 := Lib.hid ((hbs.block r (lt_heap HR2.out)).trans HR2.out)
  have HB3 := Lib.hid (HB2.out.trans (hbs.mono HB2.out.size))
  clear hbn hbs hy3
  go_upto_region 6 with (refine Au.wpList_store_row rfl 30 (.tmp 6) (.tmp 31) rfl (y2.alloc (.cells ZB 30)) ZB R y2.heap.size 30 HAL.out rfl rfl HIR.out HZR.out HOR.out ?_)
  rw [HY3.out]
  obtain ⟨q, hq⟩ : ∃ q, q = y2.heap.size := ⟨_, rfl⟩
  rw [← hq] at HQ3 ⊢
  have hqw : w.heap.size ≤ q := by have := HB2.out.size; omega
  have hqr : q ≠ r := by omega
  have HQ := Lib.hid HQ3
  clear HQ3 HY3 HAL HD2 HR2 HB2 hq hr2
  cases b with
  | true =>
    obtain ⟨x', hf⟩ := Option.isSome_iff_exists.1 HBB.out.symm
    have HV := Lib.hid (show vRead s k = x by rw [vread_loose HDD.out HKK.out hf, HX.out, hf]; rfl)
    clear hf
    have HQ4 := Lib.hid (setRow_heap y3 r _ R _ _ HR3.out)
    have HB4 := Lib.hid (below_setRow (g := r) HB3.out hrw R)
    go_wp2_with (first | (with_reducible refine wpList_load_row rfl 30 (.tmp 6) rfl q rfl 30 R (0, 0) _ HQ.out Try.underlying30 rfl HIR.out ?_) | (refine Au.wpList_store_row rfl 30 (.tmp 4) (.tmp 44) rfl y3 ZB R r 30 HR3.out rfl rfl HIR.out HZR.out HOR.out ?_))
    obtain ⟨y9, hy9⟩ : ∃ y, y3.setRow r R = y := ⟨_, rfl⟩
    rw [hy9] at HQ4 HB4 ⊢
    refine bodyPost_ret (results_row2 rfl rfl rfl HQ4.out Try.underlying30 rfl HIR.out) rfl ?_
    refine ⟨?_, HB4.out⟩
    rw [HV.out, HRE.out]
    rfl
  | false =>
    have hf : findM s.M k = none := by have e := HBB.out; cases hz : findM s.M k with | none => rfl | some z => rw [hz] at e; cases e
    obtain ⟨aS', kS, e1, hRL⟩ := HD3.out.sure.open HD3.out.okS.b128
    cases e1
    have HFC := Lib.hid (rfind_any aS cS S k y3 hRL HD3.out.okS.b128 (by have := HD3.out.okS.len; have := HD3.out.n0; omega))
    clear hRL
    obtain ⟨z, hz⟩ : ∃ x, x = (findM S k).getD zB := ⟨_, rfl⟩
    obtain ⟨b2, hb2⟩ : ∃ b, b = (findM S k).isSome := ⟨_, rfl⟩
    rw [← hz, ← hb2] at HFC
    have HV := Lib.hid (show vRead s k = z by rw [vread_last HDD.out HKK.out hf, hz]; exact HD3.out.sur k HKK.out)
    have hzl : z.length = 128 := by
      rw [hz]
      cases hf : findM S k with
      | none => exact zB_len
      | some z => exact HD3.out.okS.b128 _ (find_mem hf)
    obtain ⟨Z, HZE⟩ : ∃ R, Hid (R = (vals z).toArray) := ⟨_, Lib.hid rfl⟩
    have hZs : Z.size = 128 := by rw [HZE.out]; simp [vals_length]; exact hzl
    rw [show bv z = .agg Z by rw [HZE.out]; rfl] at HFC
    have HIZ := Lib.hid (infoT128 hZs)
    have HZZ := Lib.hid (show ZB.size = Z.size by rw [hZs]; exact ZB_size)
    have HRZ := Lib.hid (show R.size = Z.size by rw [← HZR.out]; exact HZZ.out)
    have HOZ := Lib.hid (show Z.all (·.oneCell') = true by rw [HZE.out]; exact all_oneCell_toArray (vals_one _))
    have c1 := cell_of_row _ _ 1 _ _ _ HD3.out.dev
    simp at c1
    clear hf hz hb2 hzl hZs
    go_wp2_with fail
    refine HFC.out.mono ?_
    rintro e y4 ⟨rfl, hb4⟩
    have HR4 := Lib.hid ((hb4.block r (lt_heap HR3.out)).trans HR3.out)
    have HQ4 := Lib.hid ((hb4.block q (lt_heap HQ.out)).trans HQ.out)
    have HB4 := Lib.hid (HB3.out.trans (hb4.mono HB3.out.size))
    clear hb4 HD3 HR3 HB3 HQ HFC c1
    have HQ5 := setRow_heap y4 q _ Z _ _ HQ4.out
    have HB5 := Lib.hid (below_setRow (g := q) HB4.out hqw Z)
    have HR5 := Lib.hid ((setRow_other y4 q r Z (Ne.symm hqr)).trans HR4.out)
    obtain ⟨y5, hy5⟩ : ∃ y, y4.setRow q Z = y := ⟨_, rfl⟩
    have HY5 := Lib.hid hy5
    rw [hy5] at HQ5 HB5 HR5
    have HQ6 := Lib.hid HQ5
    clear hy5 HQ5
    go_upto_region 8 with (refine Au.wpList_store_row rfl 30 (.tmp 6) (.tmp 42) rfl y4 R Z q 30 HQ4.out rfl rfl HIZ.out HRZ.out HOZ.out ?_)
    rw [HY5.out]
    clear HQ4 HR4 HB4 HY5
    have HQ7 := Lib.hid (setRow_heap y5 r _ Z _ _ HR5.out)
    have HB7 := Lib.hid (below_setRow (g := r) HB5.out hrw Z)
    go_wp2_with (first | (with_reducible refine wpList_load_row rfl 30 (.tmp 6) rfl q rfl 30 Z (0, 0) _ HQ6.out Try.underlying30 rfl HIZ.out ?_) | (refine Au.wpList_store_row rfl 30 (.tmp 4) (.tmp 44) rfl y5 ZB Z r 30 HR5.out rfl rfl HIZ.out HZZ.out HOZ.out ?_))
    obtain ⟨y9, hy9⟩ : ∃ y, y5.setRow r Z = y := ⟨_, rfl⟩
    rw [hy9] at HQ7 HB7 ⊢
    refine bodyPost_ret (results_row2 rfl rfl rfl HQ7.out Try.underlying30 rfl HIZ.out) rfl ?_
    refine ⟨?_, HB7.out⟩
    rw [HV.out, HZE.out]
    rfl

theorem rread_any (h : Nat) (aS : Option Addr) (cS : Nat) (aM : Option Addr) (cM : Nat) (S : List E1) (s : Dst) (w : World) (hr : RAt w h aS cS aM cM S s) (k : Int) : Calls Try.prog 12 #[.pointer (some ⟨h, 0, none⟩), .int .i64 k] w fun e w' => e = .returned (.tuple #[bv (vRead s k), .int .i64 (eAt s k)]) ∧ Below w.heap.size w w' := by
  by_cases he : eAt s k = 0
  · obtain ⟨hd, h0, h1⟩ := at_ok he
    obtain ⟨n, rfl⟩ : ∃ n : Nat, k = n := ⟨k.toNat, by omega⟩
    rw [he]
    exact rread_good h aS cS aM cM S s w hr n (by omega) hd
  · have hv : vRead s k = zB := by unfold vRead; rw [if_pos he]
    rw [hv]
    exact rread_bad h aS cS aM cM S s w hr k he

end Go.Proofs.Ytjejghfeeonghaa.Dr
