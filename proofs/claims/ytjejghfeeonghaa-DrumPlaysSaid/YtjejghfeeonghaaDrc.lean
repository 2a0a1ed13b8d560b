/- Layer 23: New, Read, Write by the program. -/
import Derived.Test.YtjejghfeeonghaaDrb
import Derived.Laws.OwnMore
namespace Go.Proofs.Ytjejghfeeonghaa.Dr
open Go Go.RowKit Go.Maps Go.Proofs.Ytjejghfeeonghaa Go.Proofs.Ytjejghfeeonghaa.Au Go.Proofs.Ytjejghfeeonghaa.Re
set_option linter.unusedVariables false
set_option linter.unusedSimpArgs false

def zB : Bk := List.replicate 128 0

theorem zB_len : zB.length = 128 := by simp [zB]

/-- a block's zero value, cell by cell -/
def ZB : Array Value := (vals zB).toArray

theorem zeroV (w : World) : (zeroValue 36).run Try.prog w = .ok (.agg ZB) w := by kernel_rfl

theorem infoBlk : (Try.prog.info? 36).map (fun i => (i.zero, i.size, i.bytes)) = some (some (.agg ZB), 128, 128) := by kernel_rfl

theorem made_flat (n : Nat) : (madeCells ZB (n * 128)).toList = vals (List.replicate n zB).flatten := by
  have hz : ∀ x ∈ List.replicate n zB, x.length = 128 := fun x hx => by rw [(List.mem_replicate.1 hx).2, zB_len]
  have hs : ZB.size = 128 := by decide +kernel
  have hall : ∀ j, j < 128 → ZB[j]! = .int .u8 0 := by
    intro j hj
    have e : vals zB = List.replicate 128 (.int .u8 0) := by unfold vals zB; rw [List.map_replicate]; rfl
    unfold ZB
    rw [e, List.getElem!_toArray, List.getElem!_eq_getElem?_getD, List.getElem?_replicate, if_pos hj]
    rfl
  have hf : (List.replicate n zB).flatten = List.replicate (128 * n) 0 := by
    unfold zB
    rw [List.flatten_replicate_replicate, Nat.mul_comm]
  rw [hf]
  apply List.ext_getElem
  · simp [madeCells, vals]; omega
  · intro k h1 h2
    simp [madeCells, vals, hs]
    exact hall _ (Nat.mod_lt _ (by decide))

set_option maxHeartbeats 2000000 in
set_option maxRecDepth 100000 in
theorem new_any (n : Nat) (w : World) (h1 : 1 ≤ n) (h2 : n ≤ 8192) : Calls Try.prog 6 #[.int .i64 n] w fun e w' => (∃ g b m, e = .returned (.tuple #[.pointer (some ⟨g, 0, none⟩), .int .i64 0]) ∧ w.heap.size ≤ g ∧ w.heap.size ≤ b ∧ w.heap.size ≤ m ∧ DAt w' g b m ⟨n, 0, -1, false, List.replicate n zB, []⟩) ∧ Below w.heap.size w w' := by
  obtain ⟨i0, hi, hz0, hz1, hz2⟩ := info_parts infoBlk
  have hmm := @run_makeMap Try.prog
  have d1 : decide ((n : Int) < 1) = false := by simp; omega
  have d2 : decide ((8192 : Int) < (n : Int)) = false := by simp; omega
  go_enter Try.func6, Try.ntmps6
  go_wp2_with (first | (at_make; refine wpList_make_full w rfl _ _ 54 rfl w.heap.size 36 i0 (.agg ZB) 128 Try.underlying54 hi hz0 hz1 .i64 .i64 _ _ n rfl rfl rfl rfl (by rw [hz2]; omega) (by unfold maxLen; omega) (Nat.le_refl _) ?_))
  intro y1 hown hgrow
  have hb1 : Below w.heap.size w y1 := (Below.refl _ w).grown hgrow (Nat.le_refl _) (fun q hq => by cases hq)
  have HO := Lib.hid hown
  have HB1 := Lib.hid hb1
  clear hown hgrow hb1
  go_wp2_with fail
  go_ret2
  have HM := World.ownsMap_made (H := Value) y1 Try.prog 3 hR
  have hb2 := Ve.below_n1 y1 (.map #[] 0)
  obtain ⟨y2, hy2⟩ : ∃ y, y1.alloc (.map #[] 0) = y := ⟨_, rfl⟩
  have hs2 : y2.heap.size = y1.heap.size + 1 := by rw [← hy2]; simp
  rw [hy2] at HM hb2 ⊢
  have hb3 := Ve.below_n1 y2 (.cells #[.int .i64 n, .int .i64 0, .int .i64 (-1), .bool false, .slice (some ⟨w.heap.size, 0, none⟩) n n, .map (some y1.heap.size)] 57)
  have hr3 := heap_alloc_last y2 (.cells #[.int .i64 n, .int .i64 0, .int .i64 (-1), .bool false, .slice (some ⟨w.heap.size, 0, none⟩) n n, .map (some y1.heap.size)] 57)
  have hl : ∀ x ∈ List.replicate n zB, x.length = 128 := fun x hx => by rw [(List.mem_replicate.1 hx).2, zB_len]
  have hlas : y1.heap[w.heap.size]? = some (.cells (vals (List.replicate n zB).flatten).toArray 36 (0, 0)) := by
    have ho := HO.out
    rcases ho.2 with ⟨h, -⟩ | ⟨q, cap, cur, h, hq1, hq2, hq3, hq4, hq5, hq6⟩
    · cases h
    · cases h
      rw [List.take_of_length_le (by simp [hq5]), made_flat] at hq6
      rw [hq2, ← hq6]
  have hw1 := HB1.out.size
  have hlw := lt_heap hlas
  refine ⟨⟨y1.heap.size + 1, w.heap.size, y1.heap.size, rfl, by omega, Nat.le_refl _, by omega, ?_⟩, HB1.out.trans ((hb2.trans (hb3.mono (by omega))).mono hw1)⟩
  refine ⟨by rw [← hs2]; exact hr3, ?_, ?_, by simp, ⟨h1, h2⟩, hl, by simp, by simp, by simp⟩
  · exact (hb3.block _ (by omega)).trans ((hb2.block _ hlw).trans hlas)
  · exact map_keep (HM.mono (by omega)) (hb3.block _ (by omega))

theorem results_row2 {P : Program} {fn : Func} {tmps : Array Value} {a c : Nat} {ty t : TypeId} {b : Nat} {cs : Array Value} {d : TypeDesc} {w : World} {v : Value} (hf : fn.results = #[.cell a ty, .tmp c]) (hp : tmps.getD a undef = .pointer (some ⟨b, 0, none⟩)) (hv : tmps.getD c undef = v) (hg : w.heap[b]? = some (.cells cs t (0, 0)))
    (hu : P.underlying ty = some d) (hd : (match d with | .struct _ | .array _ _ => true | _ => false) = true) (hi : (P.info? ty).map (·.size) = some cs.size) : (results fn tmps).run P w = .ok (.tuple #[.agg cs, v]) w := by
  have hl := run_loadVar_row (P := P) w b t ty cs (0, 0) d hg hu hd hi
  unfold results
  rw [hf]
  simp only [List.mapM_toArray, List.mapM_cons, List.mapM_nil, Sem.run_bind, Sem.run_pure, hp, hv, asAddr, hl, Result.andThen_ok, Sem.run_map, bind_pure_comp, map_pure]
  simp

theorem ZB_size : ZB.size = 128 := by decide +kernel

theorem ZB_one : ZB.all (·.oneCell') = true := all_oneCell_toArray (vals_one _)

theorem infoTB {R : Array Value} (h : R.size = 128) : (Try.prog.info? 36).map (·.size) = some R.size := by rw [h]; kernel_rfl

theorem wf_key {k : Int} {n : Nat} (h0 : 0 ≤ k) (h1 : k < n) (hn : n ≤ 8192) : (Lit.int .i64 k).wf = true := by
  simp [Lit.wf, IntKind.min, IntKind.max, IntKind.bits, IntKind.signed]
  omega

section
variable {ops : Array Oper} {rest : List Oper} {o : Oper} {a : Act} {w : World} {Q : Exit → Act → World → Prop} {K : Act → World → Prop} {E : Prop}

theorem look_some (hg : o.guard = none) (mm x : Operand) (hop : o.op = Op.lookup 55 mm x true) (m N : Nat) (M : List (Int × Bk)) (hm : a.eval mm = .map (some m)) (hown : w.ownsMap Try.prog 3 hR m N (dm M))
    (k : Int) (hx : a.eval x = .int .i64 k) (hw : (Lit.int .i64 k).wf = true) (b : Bk) (hf : findM M k = some b) (R : Array Value) (hR1 : bv b = .agg R) (h : wpList Try.prog ops Q rest (a.put o.dst (.tuple #[.agg R, .bool true])) w) : wpList Try.prog ops Q (o :: rest) a w :=
  wpList_lookup_own_ok w hg mm x 55 hop 3 36 keyL Try.underlying55 hR (zeroV w) (.held (.agg ZB)) [] rfl m N (dm M) hm hown _ (.int .i64 k) hx (keyOf_int_mk Try.underlying3 hw) fun v ps hv => by
    rw [dm_at, hf] at hv
    rw [dm_has, hf]
    have e : v = bv b := by simp [hR] at hv; exact hv.1
    rw [e, hR1]
    exact h

theorem look_none (hg : o.guard = none) (mm x : Operand) (hop : o.op = Op.lookup 55 mm x true) (m N : Nat) (M : List (Int × Bk)) (hm : a.eval mm = .map (some m)) (hown : w.ownsMap Try.prog 3 hR m N (dm M))
    (k : Int) (hx : a.eval x = .int .i64 k) (hw : (Lit.int .i64 k).wf = true) (hf : findM M k = none) (h : wpList Try.prog ops Q rest (a.put o.dst (.tuple #[.agg ZB, .bool false])) w) : wpList Try.prog ops Q (o :: rest) a w :=
  wpList_lookup_own_ok w hg mm x 55 hop 3 36 keyL Try.underlying55 hR (zeroV w) (.held (.agg ZB)) [] rfl m N (dm M) hm hown _ (.int .i64 k) hx (keyOf_int_mk Try.underlying3 hw) fun v ps hv => by
    rw [dm_at, hf] at hv
    rw [dm_has, hf]
    have e : v = .agg ZB := by simp [hR] at hv; exact hv.1
    rw [e]
    exact h

theorem step_put (hg : o.guard = none) (mm x y : Operand) (hop : o.op = Op.mapUpdate 55 mm x y) (m : Nat) (M : List (Int × Bk)) (hm : a.eval mm = .map (some m)) (hown : w.ownsMap Try.prog 3 hR m 9000 (dm M))
    (k : Int) (hx : a.eval x = .int .i64 k) (hw : (Lit.int .i64 k).wf = true) (b : Bk) (hy : a.eval y = .agg (vals b).toArray)
    (hK : ∀ w', w'.ownsMap Try.prog 3 hR m 9001 (dm (putM k b M)) → w.grownBy w' (some m) → K (a.put o.dst undef) w') : if Region.wanted o (yielded ops a.tmps) = true then Oper.wp Try.prog o a w K Q else E := by
  have hwt : Region.wanted o (yielded ops a.tmps) = true := by simp [Region.wanted, hg]
  rw [if_pos hwt]
  obtain ⟨w', hrun, r1, r2⟩ := hown.store keyL Try.underlying55 (by unfold maxLen; omega) (key := .int .i64 k) (val := bv b) (kl := .int .i64 k) (keyOf_int_mk Try.underlying3 hw) (d := .held (bv b)) (ps := []) rfl
  rw [dm_put] at r1
  unfold Oper.wp
  unfold bv at hrun
  simp [execOp, hop, hm, hx, hy, hrun, Result.andThen]
  exact hK w' r1 r2.grown
end

def eRead (s : Dst) (k : Int) : Int := eAt s k

def vRead (s : Dst) (k : Int) : Bk := if eAt s k ≠ 0 then zB else match findM s.M k with | some b => b | none => s.L.getD k.toNat zB

set_option maxHeartbeats 2000000 in
set_option maxRecDepth 100000 in
theorem read_bad (g b m : Nat) (s : Dst) (w : World) (h : DAt w g b m s) (k : Int) (he : eAt s k ≠ 0) : Calls Try.prog 11 #[.pointer (some ⟨g, 0, none⟩), .int .i64 k] w fun e w' => e = .returned (.tuple #[.agg ZB, .int .i64 (eAt s k)]) ∧ Below w.heap.size w w' := by
  have HD := Lib.hid h
  have hne : (eAt s k != 0) = true := by simp [he]
  clear h
  have hzv := zeroV
  have hzs := ZB_size
  go_enter Try.func11, Try.ntmps11
  go_upto_region 1 with fail
  have hb1 := Ve.below_n1 w (.cells ZB 36)
  have hr1 := heap_alloc_last w (.cells ZB 36)
  obtain ⟨y1, hy1⟩ : ∃ y, w.alloc (.cells ZB 36) = y := ⟨_, rfl⟩
  obtain ⟨r, hr⟩ : ∃ r, r = w.heap.size := ⟨_, rfl⟩
  rw [hy1] at hb1 hr1 ⊢
  rw [← hr] at hr1 ⊢
  have hwr : w.heap.size ≤ r := by omega
  have HR := Lib.hid hr1
  have HB := Lib.hid hb1
  have HI := Lib.hid (infoTB ZB_size)
  have HO := Lib.hid ZB_one
  clear hy1 hr hr1
  go_wp2_with fail
  refine (readyAt_any g b m s _ (HD.out.on hb1) k).mono ?_
  rintro e w1 ⟨rfl, rfl⟩
  clear hb1
  go_wp2_with (refine Au.wpList_store_row rfl 36 (.tmp 4) (.tmp 14) rfl y1 ZB ZB r 36 HR.out rfl rfl HI.out rfl HO.out ?_)
  have hN2 := setRow_heap y1 r _ ZB _ _ HR.out
  exact bodyPost_ret (v := .tuple #[.agg ZB, .int .i64 (eAt s k)]) (results_row2 (t := 36) Try.results11 rfl rfl hN2 Try.underlying36 rfl HI.out) rfl ⟨rfl, below_setRow (g := r) HB.out hwr ZB⟩

set_option maxHeartbeats 4000000 in
set_option maxRecDepth 100000 in
theorem read_loose (g b m : Nat) (s : Dst) (w : World) (h : DAt w g b m s) (k : Nat) (hk : k < s.n) (hd : s.down = false) (x : Bk) (hf : findM s.M k = some x) : Calls Try.prog 11 #[.pointer (some ⟨g, 0, none⟩), .int .i64 k] w fun e w' => e = .returned (.tuple #[bv x, .int .i64 0]) ∧ Below w.heap.size w w' := by
  have HD := Lib.hid h
  have he : eAt s k = 0 := by unfold eAt; rw [hd, if_neg (by simp), if_pos (by omega)]
  have hx8 : (vals x).toArray.size = 128 := by have := (h.m128 _ (find_mem hf)).1; simp [vals_length]; exact this
  have HF := Lib.hid hf
  have hkw : (Lit.int .i64 (k : Int)).wf = true := wf_key (by omega) (by omega) h.n0.2
  have HKW := Lib.hid hkw
  obtain ⟨R, hRe⟩ : ∃ R, R = (vals x).toArray := ⟨_, rfl⟩
  have hRs : R.size = 128 := by rw [hRe]; exact hx8
  have HI := Lib.hid (infoTB hRs)
  have HZ := Lib.hid (show ZB.size = R.size by rw [hRs]; exact ZB_size)
  have HO := Lib.hid (show R.all (·.oneCell') = true by rw [hRe]; exact all_oneCell_toArray (vals_one _))
  have HRE := Lib.hid (show bv x = .agg R by rw [hRe]; rfl)
  have hzv := zeroV
  have hzs := ZB_size
  clear h hd hf hx8 hRe hRs hkw
  go_enter Try.func11, Try.ntmps11
  go_upto_region 1 with fail
  have hb1 := Ve.below_n1 w (.cells ZB 36)
  have hr1 := heap_alloc_last w (.cells ZB 36)
  obtain ⟨y1, hy1⟩ : ∃ y, w.alloc (.cells ZB 36) = y := ⟨_, rfl⟩
  obtain ⟨r, hr⟩ : ∃ r, r = w.heap.size := ⟨_, rfl⟩
  rw [hy1] at hb1 hr1 ⊢
  rw [← hr] at hr1 ⊢
  have hwr : w.heap.size ≤ r := by omega
  have HR := Lib.hid hr1
  have HB := Lib.hid hb1
  have HD1 := Lib.hid (HD.out.on hb1)
  clear hy1 hr hr1 hb1
  go_wp2_with fail
  refine (readyAt_any g b m s _ HD1.out k).mono ?_
  rintro e w1 ⟨rfl, rfl⟩
  rw [he]
  have c5 := cell_of_row _ _ 5 _ _ _ HD1.out.dev
  simp at c5
  have HLO := Lib.hid HD1.out.loose
  have HAL := Lib.hid (heap_alloc_last y1 (.cells ZB 36))
  go_upto_region 5 with (first | (at_lookup; refine look_some rfl _ _ rfl m 9000 s.M rfl HLO.out (k : Int) rfl HKW.out x HF.out R HRE.out ?_) | refine Au.wpList_store_row rfl 36 (.tmp 7) (.tmp 23) rfl (y1.alloc (.cells ZB 36)) ZB R y1.heap.size 36 HAL.out rfl rfl HI.out HZ.out HO.out ?_)
  have hN := setRow_heap _ (y1.heap.size) _ R _ _ HAL.out
  have hbn := Ve.below_n1 y1 (.cells ZB 36)
  have HUx := below_setRow (g := y1.heap.size) hbn (Nat.le_refl _) R
  obtain ⟨y2, hy2⟩ : ∃ y, (y1.alloc (.cells ZB 36)).setRow y1.heap.size R = y := ⟨_, rfl⟩
  obtain ⟨q, hq⟩ : ∃ q, q = y1.heap.size := ⟨_, rfl⟩
  rw [hy2] at hN HUx ⊢
  have hR2 := (HUx.block r (lt_heap HR.out)).trans HR.out
  have HB2 := Lib.hid (HB.out.trans (HUx.mono HB.out.size))
  rw [← hq] at hN ⊢
  have HQ := Lib.hid hN
  have HR2 := Lib.hid hR2
  clear hy2 hN HUx hbn HAL hq hR2 HR HB HD1 HLO c5
  go_wp2_with (first | (with_reducible refine wpList_load_row rfl 36 (.tmp 7) rfl q rfl 36 R (0, 0) _ HQ.out Try.underlying36 rfl HI.out ?_) | (refine Au.wpList_store_row rfl 36 (.tmp 4) (.tmp 26) rfl y2 ZB R r 36 HR2.out rfl rfl HI.out HZ.out HO.out ?_))
  have hN2 := setRow_heap y2 r _ R _ _ HR2.out
  exact bodyPost_ret (v := .tuple #[.agg R, .int .i64 0]) (results_row2 (t := 36) Try.results11 rfl rfl hN2 Try.underlying36 rfl HI.out) rfl ⟨by rw [HRE.out], below_setRow (g := r) HB2.out hwr R⟩

set_option maxHeartbeats 4000000 in
set_option maxRecDepth 100000 in
theorem read_last (g b m : Nat) (s : Dst) (w : World) (h : DAt w g b m s) (k : Nat) (hk : k < s.n) (hd : s.down = false) (hf : findM s.M k = none) : Calls Try.prog 11 #[.pointer (some ⟨g, 0, none⟩), .int .i64 k] w fun e w' => e = .returned (.tuple #[bv (s.L.getD k zB), .int .i64 0]) ∧ Below w.heap.size w w' := by
  have HD := Lib.hid h
  have he : eAt s k = 0 := by unfold eAt; rw [hd, if_neg (by simp), if_pos (by omega)]
  obtain ⟨x, hx⟩ : ∃ x, s.L[k]? = some x := ⟨_, List.getElem?_eq_getElem (by have := h.len; omega)⟩
  have hxg : s.L.getD k zB = x := by rw [List.getD_eq_getElem?_getD, hx]; rfl
  have hx8 : (vals x).toArray.size = 128 := by have := h.b128 x (List.mem_of_getElem? hx); simp [vals_length]; exact this
  rw [hxg]
  have HF := Lib.hid hf
  have hkw : (Lit.int .i64 (k : Int)).wf = true := wf_key (by omega) (by omega) h.n0.2
  have HKW := Lib.hid hkw
  have HX := Lib.hid hx
  obtain ⟨R, hRe⟩ : ∃ R, R = (vals x).toArray := ⟨_, rfl⟩
  have hRs : R.size = 128 := by rw [hRe]; exact hx8
  have HI := Lib.hid (infoTB hRs)
  have HZ := Lib.hid (show ZB.size = R.size by rw [hRs]; exact ZB_size)
  have HO := Lib.hid (show R.all (·.oneCell') = true by rw [hRe]; exact all_oneCell_toArray (vals_one _))
  have HRE := Lib.hid hRe
  have hk' : (k : Int) < (s.n : Int) := by omega
  have HIZ := Lib.hid (infoTB ZB_size)
  have HOZ := Lib.hid ZB_one
  have HX8 := Lib.hid (show x.length = 128 by simpa [vals_length] using hx8)
  have hzv := zeroV
  have hzs := ZB_size
  clear h hd hf hx8 hRe hRs hkw hx hxg
  go_enter Try.func11, Try.ntmps11
  go_upto_region 1 with fail
  have hb1 := Ve.below_n1 w (.cells ZB 36)
  have hr1 := heap_alloc_last w (.cells ZB 36)
  obtain ⟨y1, hy1⟩ : ∃ y, w.alloc (.cells ZB 36) = y := ⟨_, rfl⟩
  obtain ⟨r, hr⟩ : ∃ r, r = w.heap.size := ⟨_, rfl⟩
  rw [hy1] at hb1 hr1 ⊢
  rw [← hr] at hr1 ⊢
  have hwr : w.heap.size ≤ r := by omega
  have HR := Lib.hid hr1
  have HB := Lib.hid hb1
  have HD1 := Lib.hid (HD.out.on hb1)
  clear hy1 hr hr1 hb1
  go_wp2_with fail
  refine (readyAt_any g b m s _ HD1.out k).mono ?_
  rintro e w1 ⟨rfl, rfl⟩
  rw [he]
  have c5 := cell_of_row _ _ 5 _ _ _ HD1.out.dev
  simp at c5
  have HLO := Lib.hid HD1.out.loose
  have HAL := Lib.hid (heap_alloc_last y1 (.cells ZB 36))
  go_upto_region 5 with (first | (at_lookup; refine look_none rfl _ _ rfl m 9000 s.M rfl HLO.out (k : Int) rfl HKW.out HF.out ?_) | refine Au.wpList_store_row rfl 36 (.tmp 7) (.tmp 23) rfl (y1.alloc (.cells ZB 36)) ZB ZB y1.heap.size 36 HAL.out rfl rfl HIZ.out rfl HOZ.out ?_)
  have hbn := Ve.below_n1 y1 (.cells ZB 36)
  have HUx := below_setRow (g := y1.heap.size) hbn (Nat.le_refl _) ZB
  obtain ⟨y2, hy2⟩ : ∃ y, (y1.alloc (.cells ZB 36)).setRow y1.heap.size ZB = y := ⟨_, rfl⟩
  rw [hy2] at HUx ⊢
  have hR2 := (HUx.block r (lt_heap HR.out)).trans HR.out
  have HB2 := Lib.hid (HB.out.trans (HUx.mono HB.out.size))
  have HD2 := Lib.hid (HD1.out.on HUx)
  have HR2 := Lib.hid hR2
  clear hy2 HUx hbn HAL hR2 HR HB HD1 HLO c5
  have c4 := cell_of_row _ _ 4 _ _ _ HD2.out.dev
  simp at c4
  have HRG := Lib.hid (show y2.rangeAt b (k * 128) R.toList from fun j v hv => by
    rw [HRE.out] at hv
    have hj : j < 128 := by
      have := (List.getElem?_eq_some_iff.1 hv).1
      simp [vals_length, HX8.out] at this
      exact this
    have e1 := flat_at s.L HD2.out.b128 k x j HX.out hj
    have e2 : (vals s.L.flatten)[k * 128 + j]? = (vals x)[j]? := by unfold vals; rw [List.getElem?_map, List.getElem?_map, show k * 128 + j = 128 * k + j by omega, e1]
    have hv' : (vals x)[j]? = some v := by simpa using hv
    simp [World.cell?, HD2.out.las, e2, hv'])
  have HIL := Lib.hid (show (Try.prog.info? 36).map (·.size) = some R.toList.length by have := HI.out; simpa using this)
  go_wp2_with (first | (with_reducible refine wpList_load_mid rfl 36 (.tmp 32) rfl b (k * 128) rfl R.toList _ HRG.out Try.underlying36 rfl HIL.out ?_) | (refine Au.wpList_store_row rfl 36 (.tmp 4) (.tmp 33) rfl y2 ZB R r 36 HR2.out rfl rfl HI.out HZ.out HO.out ?_))
  have hN2 := setRow_heap y2 r _ R _ _ HR2.out
  exact bodyPost_ret (v := .tuple #[.agg R, .int .i64 0]) (results_row2 (t := 36) Try.results11 rfl rfl hN2 Try.underlying36 rfl HI.out) rfl ⟨by rw [HRE.out]; rfl, below_setRow (g := r) HB2.out hwr R⟩

theorem read_any (g b m : Nat) (s : Dst) (w : World) (h : DAt w g b m s) (k : Int) : Calls Try.prog 11 #[.pointer (some ⟨g, 0, none⟩), .int .i64 k] w fun e w' => e = .returned (.tuple #[bv (vRead s k), .int .i64 (eAt s k)]) ∧ Below w.heap.size w w' := by
  by_cases he : eAt s k = 0
  · have hd : s.down = false := by
      cases hs : s.down
      · rfl
      · unfold eAt at he; rw [hs] at he; simp at he
    have hk : 0 ≤ k ∧ k < s.n := by
      unfold eAt at he
      rw [hd, if_neg (by simp)] at he
      by_cases hk : 0 ≤ k ∧ k < s.n
      · exact hk
      · rw [if_neg hk] at he; omega
    obtain ⟨kn, rfl⟩ : ∃ n : Nat, k = (n : Int) := ⟨k.toNat, by omega⟩
    have hv : vRead s kn = match findM s.M kn with | some b => b | none => s.L.getD kn zB := by
      unfold vRead; rw [if_neg (by simpa using he)]; simp
    rw [hv, he]
    cases hf : findM s.M kn with
    | some x => exact read_loose g b m s w h kn (by omega) hd x hf
    | none => exact read_last g b m s w h kn (by omega) hd hf
  · have hv : vRead s k = zB := by unfold vRead; rw [if_pos he]
    rw [hv]
    exact read_bad g b m s w h k he

set_option maxHeartbeats 2000000 in
set_option maxRecDepth 100000 in
theorem read_nil (k : Int) (w : World) : Calls Try.prog 11 #[.pointer none, .int .i64 k] w fun e w' => e = .returned (.tuple #[.agg ZB, .int .i64 2]) ∧ Below w.heap.size w w' := by
  have hzv := zeroV
  have hzs := ZB_size
  go_enter Try.func11, Try.ntmps11
  go_upto_region 1 with fail
  have hb1 := Ve.below_n1 w (.cells ZB 36)
  have hr1 := heap_alloc_last w (.cells ZB 36)
  obtain ⟨y1, hy1⟩ : ∃ y, w.alloc (.cells ZB 36) = y := ⟨_, rfl⟩
  obtain ⟨r, hr⟩ : ∃ r, r = w.heap.size := ⟨_, rfl⟩
  rw [hy1] at hb1 hr1 ⊢
  rw [← hr] at hr1 ⊢
  have hwr : w.heap.size ≤ r := by omega
  have HR := Lib.hid hr1
  have HB := Lib.hid hb1
  have HI := Lib.hid (infoTB ZB_size)
  have HO := Lib.hid ZB_one
  clear hy1 hr hr1 hb1
  go_wp2_with fail
  refine (readyAt_nil k _).mono ?_
  rintro e w1 ⟨rfl, rfl⟩
  go_wp2_with (refine Au.wpList_store_row rfl 36 (.tmp 4) (.tmp 14) rfl y1 ZB ZB r 36 HR.out rfl rfl HI.out rfl HO.out ?_)
  have hN2 := setRow_heap y1 r _ ZB _ _ HR.out
  exact bodyPost_ret (v := .tuple #[.agg ZB, .int .i64 2]) (results_row2 (t := 36) Try.results11 rfl rfl hN2 Try.underlying36 rfl HI.out) rfl ⟨rfl, below_setRow (g := r) HB.out hwr ZB⟩

end Go.Proofs.Ytjejghfeeonghaa.Dr
