/- Layer 22: the document's tables, made. -/
import Derived.Test.YtndpidmbfdpiaaaDoorK42
namespace Go.Proofs.YtndpidmbfdpiaaaDoor.Se
open Go Go.RowKit Go.Proofs.YtndpidmbfdpiaaaDoor Go.Proofs.YtndpidmbfdpiaaaDoor.Au Go.Proofs.YtndpidmbfdpiaaaDoor.Re
set_option linter.unusedVariables false
set_option linter.unusedSimpArgs false

/-- the tables' words -/
def tbl : List Int := start.l ++ kt

def tpart (i : Nat) : List Int := tbl.take i ++ List.replicate (72 - i) 0

theorem tbl_len : tbl.length = 72 := rfl

theorem tpart_len (i : Nat) : (tpart i).length = min i 72 + (72 - i) := by unfold tpart; simp [tbl_len]

theorem tpart_72 : tpart (8 + 64) = tbl := rfl

theorem tpart_set (i : Nat) (h : i < 72) : (tpart i).set i (tbl.getD i 0) = tpart (i + 1) := by
  unfold tpart
  rw [List.set_append_right _ _ (by rw [List.length_take, tbl_len]; omega), List.length_take, tbl_len, show i - min i 72 = 0 by omega, show 72 - i = (72 - (i + 1)) + 1 by omega, List.replicate_succ, List.set_cons_zero, List.take_add_one]
  have e : tbl[i]? = some (tbl.getD i 0) := by rw [List.getD_eq_getElem?_getD, List.getElem?_eq_getElem (by rw [tbl_len]; exact h)]; rfl
  rw [e]
  simp

theorem root_at (i : Nat) (h : i < 8) : (rootN ((prs 310).getD i 0) : Int) = tbl.getD (0 + i) 0 := by
  have e := congrArg (fun l : List Int => l.getD i 0) roots_is
  have hl := prs_all
  have e1 : (((prs 310).take 8).map (fun p => (rootN p : Int))).getD i 0 = (rootN ((prs 310).getD i 0) : Int) := by
    simp only [List.getD_eq_getElem?_getD, List.getElem?_map, List.getElem?_take, if_pos h, List.getElem?_eq_getElem (show i < (prs 310).length by omega), Option.map_some, Option.getD_some]
  rw [← e1, Nat.zero_add]
  refine e.trans ?_
  unfold tbl
  simp only [List.getD_eq_getElem?_getD]
  rw [List.getElem?_append_left (by exact h)]

theorem cube_at (i : Nat) (h : i < 64) : (cubeN ((prs 310).getD i 0) : Int) = tbl.getD (8 + i) 0 := by
  have e := congrArg (fun l : List Int => l.getD i 0) cubes_is
  have hl := prs_all
  have e1 : ((prs 310).map (fun p => (cubeN p : Int))).getD i 0 = (cubeN ((prs 310).getD i 0) : Int) := by
    simp only [List.getD_eq_getElem?_getD, List.getElem?_map, List.getElem?_eq_getElem (show i < (prs 310).length by omega), Option.map_some, Option.getD_some]
  rw [← e1]
  refine e.trans ?_
  unfold tbl
  simp only [List.getD_eq_getElem?_getD]
  rw [List.getElem?_append_right (by show 8 ≤ 8 + i; omega), show 8 + i - start.l.length = i by show 8 + i - 8 = i; omega]

/-- the tables' zero value, cell by cell (a name of my own, for the loader doesn't name it at each seat) -/
def zT : Array Value := (List.replicate 72 (Value.int .u32 0)).toArray

theorem zeroT (w : World) : (zeroValue 31).run Tryd.prog w = .ok (.agg zT) w := by kernel_rfl

theorem zT_size : zT.size = 72 := by decide +kernel

theorem z72_nums : zT = (nums .u32 (tpart (0 + 0))).toArray := by kernel_rfl

set_option maxHeartbeats 4000000 in
set_option maxRecDepth 100000 in
theorem make_any (w : World) : Calls Tryd.prog 7 #[] w fun e' w' => e' = .returned (.agg (nums .u32 tbl).toArray) ∧ Below w.heap.size w w' := by
  have hzT := zeroT
  have hzTs := zT_size
  go_enter Tryd.func7, Tryd.ntmps7
  go_upto_region 2 with fail
  have hR := Au.rows2 w (.cells zT 31) (.cells zT 31)
  have HUx := Ve.below_n2 w (.cells zT 31) (.cells zT 31)
  obtain ⟨y0, hy0⟩ : ∃ y0, (w.alloc (.cells zT 31)).alloc (.cells zT 31) = y0 := ⟨_, rfl⟩
  rw [hy0] at hR HUx ⊢
  clear hy0
  obtain ⟨hr0, hq0⟩ := hR
  obtain ⟨r, hre⟩ : ∃ r, r = w.heap.size := ⟨_, rfl⟩
  obtain ⟨q, hqe⟩ : ∃ q, q = w.heap.size + 1 := ⟨_, rfl⟩
  rw [← hqe] at hq0 ⊢
  rw [← hre] at hr0 ⊢
  have hrq : r < q := by omega
  have hwr : w.heap.size ≤ r := by omega
  clear hre hqe
  go_wp2_with fail
  refine (primes_any _).mono ?_
  rintro e y1 ⟨⟨v1, rfl, ho⟩, hb1⟩
  obtain ⟨pa, pc, rfl⟩ := own_formU ho
  obtain ⟨pq, hpa, hpb, -⟩ := own_us ho (j := 0) (by decide)
  have hlq := lt_heap hq0
  have hqp : q < pq := by omega
  obtain ⟨pq', hpa', hpl, hpc⟩ := own_all ho (by decide)
  subst hpa
  cases hpa'
  have HPC := Lib.hid hpc
  rw [z72_nums] at hq0
  have HQ1 := Lib.hid ((hb1.block _ hlq).trans hq0)
  have HR1 := Lib.hid ((hb1.block _ (lt_heap hr0)).trans hr0)
  have HU1 := Lib.hid (HUx.trans (hb1.mono HUx.size))
  clear ho hpb hpl hpc hb1 hq0 hr0 HUx hlq
  go_wp2_with fail
  go_loopw [3] (fun iv wr => ∃ i : Nat, i ≤ 8 ∧ iv = .int .i64 i ∧ Hid (wr.heap[q]? = some (.cells (nums .u32 (tpart (0 + i))).toArray 31 (0, 0))) ∧ Hid (wr.heap[r]? = some (.cells zT 31 (0, 0))) ∧ Hid (wr.heap[pq]? = y1.heap[pq]?) ∧ Hid (Below w.heap.size w wr)) (fun iv _ => 8 - (intOf iv).toNat)
  case atStart => exact ⟨0, by omega, rfl, HQ1, HR1, Lib.hid rfl, HU1⟩
  case round =>
    obtain ⟨i, hi, rfl, HQ, HR, HPK, HU⟩ := hrel
    by_cases hlt : i < 8
    · have hlt' : (i : Int) < 8 := by omega
      have hpi : (i : Int) < 64 := by omega
      obtain ⟨p, hp⟩ : ∃ p, p = (prs 310).getD i 0 := ⟨_, rfl⟩
      have hpc1 : wr.cell? ⟨pq, i, none⟩ = some (.int .u64 (p : Nat)) := by
        rw [hp]
        exact (World.cell?_of_block (w := y1) HPK.out).trans (HPC.out i (by omega))
      obtain ⟨c, hc⟩ : ∃ c : Int, c = tbl.getD (0 + i) 0 := ⟨_, rfl⟩
      have HC := Lib.hid (show (rootN p : Int) = c by rw [hp, hc]; exact root_at i hlt)
      have HC2 := Lib.hid hc
      clear hp hc
      go_wp2_with fail
      refine (root_any p _).mono ?_
      rintro e y3 ⟨rfl, hb3⟩
      have hq3 := (hb3.block _ (lt_heap HQ.out)).trans HQ.out
      have hr3 := (hb3.block _ (lt_heap HR.out)).trans HR.out
      have hlp : pq < wr.heap.size := by have := World.block_lt_of_cell? _ _ hpc1; exact this
      have HPK3 := Lib.hid ((hb3.block _ hlp).trans HPK.out)
      have HU3 := Lib.hid (HU.out.trans (hb3.mono HU.out.size))
      have h0 := row_at hq3 (j := 0 + i) (by rw [tpart_len]; omega)
      obtain ⟨x0, hx0⟩ : ∃ x : Int, x = (tpart (0 + i)).getD (0 + i) 0 := ⟨_, rfl⟩
      rw [← hx0] at h0
      have hfz := row_free hq3 (0 + i)
      have HQ3 := Lib.hid hq3
      have HR3 := Lib.hid hr3
      rw [HC.out]
      simp only [Nat.zero_add] at h0 hfz
      clear hpc1 hb3 HQ HR HPK HU hx0 hlp hq3 hr3
      go_wp2_with fail
      go_roundw
      case rel =>
        refine ⟨i + 1, by omega, by go_num, Lib.hid ?_, Lib.hid ?_, Lib.hid ?_, Lib.hid ?_⟩
        · rw [show 0 + (i + 1) = (0 + i) + 1 by omega, ← tpart_set _ (by omega), ← HC2.out]
          simpa using row_put HQ3.out (0 + i) c
        · exact (Below.heap_setCell _ _ _ _ (by show r ≠ q; omega)).trans HR3.out
        · exact (Below.heap_setCell _ _ _ _ (by show pq ≠ q; omega)).trans HPK3.out
        · exact HU3.out.setCell (by show w.heap.size ≤ q; omega) _
      case measure => simp [intOf]; omega
    · have hge : ¬ (i : Int) < 8 := by omega
      have HI := Lib.hid (show i = 8 by omega)
      go_wp2_with fail
      go_loopw [4] (fun iv wr => ∃ i : Nat, i ≤ 64 ∧ iv = .int .i64 i ∧ Hid (wr.heap[q]? = some (.cells (nums .u32 (tpart (8 + i))).toArray 31 (0, 0))) ∧ Hid (wr.heap[r]? = some (.cells zT 31 (0, 0))) ∧ Hid (wr.heap[pq]? = y1.heap[pq]?) ∧ Hid (Below w.heap.size w wr)) (fun iv _ => 64 - (intOf iv).toNat)
      case atStart => exact ⟨0, by omega, rfl, (by have h := HQ; rw [HI.out] at h; exact h), HR, HPK, HU⟩
      case round =>
        obtain ⟨i, hi, rfl, HQ, HR, HPK, HU⟩ := hrel
        by_cases hlt : i < 64
        · have hlt' : (i : Int) < 64 := by omega
          have hpi : (i : Int) < 64 := by omega
          obtain ⟨p, hp⟩ : ∃ p, p = (prs 310).getD i 0 := ⟨_, rfl⟩
          have hpc1 : wr.cell? ⟨pq, i, none⟩ = some (.int .u64 (p : Nat)) := by
            rw [hp]
            exact (World.cell?_of_block (w := y1) HPK.out).trans (HPC.out i (by omega))
          obtain ⟨c, hc⟩ : ∃ c : Int, c = tbl.getD (8 + i) 0 := ⟨_, rfl⟩
          have HC := Lib.hid (show (cubeN p : Int) = c by rw [hp, hc]; exact cube_at i hlt)
          have HC2 := Lib.hid hc
          clear hp hc
          go_wp2_with fail
          refine (cube_any p _).mono ?_
          rintro e y3 ⟨rfl, hb3⟩
          have hq3 := (hb3.block _ (lt_heap HQ.out)).trans HQ.out
          have hr3 := (hb3.block _ (lt_heap HR.out)).trans HR.out
          have hlp : pq < wr.heap.size := by have := World.block_lt_of_cell? _ _ hpc1; exact this
          have HPK3 := Lib.hid ((hb3.block _ hlp).trans HPK.out)
          have HU3 := Lib.hid (HU.out.trans (hb3.mono HU.out.size))
          have h0 := row_at hq3 (j := 8 + i) (by rw [tpart_len]; omega)
          obtain ⟨x0, hx0⟩ : ∃ x : Int, x = (tpart (8 + i)).getD (8 + i) 0 := ⟨_, rfl⟩
          rw [← hx0] at h0
          have hfz := row_free hq3 (8 + i)
          have HQ3 := Lib.hid hq3
          have HR3 := Lib.hid hr3
          rw [HC.out]
          skip
          clear hpc1 hb3 HQ HR HPK HU hx0 hlp hq3 hr3
          go_wp2_with fail
          go_roundw
          case rel =>
            refine ⟨i + 1, by omega, by go_num, Lib.hid ?_, Lib.hid ?_, Lib.hid ?_, Lib.hid ?_⟩
            · rw [show 8 + (i + 1) = (8 + i) + 1 by omega, ← tpart_set _ (by omega), ← HC2.out]
              simpa using row_put HQ3.out (8 + i) c
            · exact (Below.heap_setCell _ _ _ _ (by show r ≠ q; omega)).trans HR3.out
            · exact (Below.heap_setCell _ _ _ _ (by show pq ≠ q; omega)).trans HPK3.out
            · exact HU3.out.setCell (by show w.heap.size ≤ q; omega) _
          case measure => simp [intOf]; omega
        · have hge : ¬ (i : Int) < 64 := by omega
          have HI := Lib.hid (show i = 64 by omega)
          go_upto_region 11 with fail
          obtain ⟨R2, hRe⟩ : ∃ R, R = (nums .u32 tbl).toArray := ⟨_, rfl⟩
          have hRs : R2.size = 72 := by rw [hRe]; rfl
          have hQ : wr.heap[q]? = some (.cells R2 31 (0, 0)) := by have h := HQ.out; rw [HI.out, tpart_72, ← hRe] at h; exact h
          have HRE := Lib.hid hRe
          have HQ3 := Lib.hid hQ
          have HSZ := Lib.hid (show (Tryd.prog.info? 31).map (·.size) = some R2.size by rw [hRs]; kernel_rfl)
          have HZZ := Lib.hid (show (zT : Array Value).size = R2.size by rw [hRs]; rfl)
          have HOO := Lib.hid (show R2.all (·.oneCell') = true by rw [hRe]; exact all_oneCell_toArray (nums_one _ _))
          clear hQ hRe hRs HQ
          go_wp2_with (first | (with_reducible refine wpList_load_row rfl 31 (.tmp 1) rfl q rfl 31 R2 (0, 0) _ HQ3.out Tryd.underlying31 rfl HSZ.out ?_) | (refine Au.wpList_store_row rfl 31 (.tmp 0) (.tmp 30) rfl wr zT R2 r 31 HR.out rfl rfl HSZ.out HZZ.out HOO.out ?_))
          have hN2 := setRow_heap wr r _ R2 _ _ HR.out
          exact bodyPost_ret (v := .agg R2) (results_cell_row Tryd.results7 _ _ r 31 R2 (0, 0) _ rfl hN2 Tryd.underlying31 rfl HSZ.out) rfl ⟨by rw [HRE.out], below_setRow (g := r) HU.out (by omega) R2⟩

end Go.Proofs.YtndpidmbfdpiaaaDoor.Se
