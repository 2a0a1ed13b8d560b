/- Layer 26 (stamp), the program's Job. -/
import Derived.Test.YtndpidmbfdpiaaaDoorK20
namespace Go.Proofs.YtndpidmbfdpiaaaDoor.St
open Go Go.RowKit Go.Proofs.YtndpidmbfdpiaaaDoor Go.Proofs.YtndpidmbfdpiaaaDoor.Au Go.Proofs.YtndpidmbfdpiaaaDoor.Re Go.Proofs.YtndpidmbfdpiaaaDoor.Se
set_option linter.unusedVariables false
set_option linter.unusedSimpArgs false

/-- the key of a job -/
def jobB (l : List UInt8) : List UInt8 := shaB (74 :: l)

theorem bsc_lt {w : World} {ad : Addr} {n c : Nat} {l : List UInt8} (h : BsC w (.slice (some ad) n c) l) (hl : l ≠ []) : ad.block < w.heap.size := by
  rcases h with ⟨h, _⟩ | ⟨ad', cap, h, _, hc⟩
  · cases h
  · cases h
    cases l with
    | nil => exact absurd rfl hl
    | cons b l =>
      have := World.block_lt_of_cell? w _ (hc 0 (.int .u8 (b.toNat : Int)) rfl)
      simpa [Addr.add] using this

set_option maxHeartbeats 4000000 in
set_option maxRecDepth 100000 in
theorem job_any (v : Value) (l : List UInt8) (w : World) (hv : BsC w v l) (hT : Tabs w) (hl : l.length ≤ 100000000) :
    Calls Tryd.prog 8 #[v] w fun e w' => e = .returned (.agg (vals (jobB l)).toArray) ∧ Below w.heap.size w w' := by
  obtain ⟨va, vn, vc, hform⟩ : ∃ a n c, v = .slice a n c := by
    rcases hv with ⟨h, _⟩ | ⟨ad, cap, h, _⟩
    · exact ⟨_, _, _, h⟩
    · exact ⟨_, _, _, h⟩
  subst hform
  have hr0 := heap_alloc_last w (.cells Y32 33)
  have hb0 := Ve.below_n1 w (.cells Y32 33)
  obtain ⟨y0, hy0⟩ : ∃ y, w.alloc (.cells Y32 33) = y := ⟨_, rfl⟩
  obtain ⟨r, hr⟩ : ∃ r, r = w.heap.size := ⟨_, rfl⟩
  rw [hy0] at hr0 hb0
  rw [← hr] at hr0
  have HRW := Lib.hid hr
  have HR0 := Lib.hid hr0
  have HB0 := Lib.hid hb0
  have HY0 := Lib.hid hy0
  have HV0 := Lib.hid (hv.on hb0)
  have HT0 := Lib.hid (hT.on hb0)
  clear hr0 hb0 hr hy0 hv hT
  have hr2 := rows2 y0 (.cells #[.int .u8 74] 5) (.cells #[.slice (some ⟨y0.heap.size, 0, none⟩) 1 1, .slice va vn vc] 22)
  have hb2 := Ve.below_n2 y0 (.cells #[.int .u8 74] 5) (.cells #[.slice (some ⟨y0.heap.size, 0, none⟩) 1 1, .slice va vn vc] 22)
  obtain ⟨y2, hy2⟩ : ∃ y, (y0.alloc (.cells #[.int .u8 74] 5)).alloc (.cells #[.slice (some ⟨y0.heap.size, 0, none⟩) 1 1, .slice va vn vc] 22) = y := ⟨_, rfl⟩
  rw [hy2] at hr2 hb2
  have hs2 := lt_heap hr2.2
  have hof := of_any (.slice (some ⟨y0.heap.size + 1, 0, none⟩) 2 2) [[74], l] y2 (fun w' g hb hg => .inr ⟨y0.heap.size + 1, 0, 2, rfl, by omega, fun j l' hj => by
    match j, hj with
    | 0, hj =>
      simp at hj
      subst hj
      refine ⟨.slice (some ⟨y0.heap.size, 0, none⟩) 1 1, ?_, ?_, fun ad n c e _ => by cases e; show y0.heap.size ≠ g; omega⟩
      · have h := (hb.block (y0.heap.size + 1) hs2).trans hr2.2
        simp [World.cell?, h]
      · exact bsc_block (l := [74]) ((hb.block y0.heap.size (by omega)).trans hr2.1)
    | 1, hj =>
      simp at hj
      subst hj
      refine ⟨.slice va vn vc, ?_, (HV0.out.on hb2).on hb, fun ad n c e hne => ?_⟩
      · have h := (hb.block (y0.heap.size + 1) hs2).trans hr2.2
        simp [World.cell?, h]
      · have h1 := HV0.out
        rw [e] at h1
        have := bsc_lt h1 hne
        omega
    | j + 2, hj => simp at hj⟩) (by show 2 ≤ 1000000; omega) (HT0.out.on hb2) (by simp; omega)
  rw [show [[74], l].flatten = 74 :: l by simp, show nums .u8 (sha (74 :: l)) = vals (jobB l) from sha_vals _] at hof
  have HR2 := Lib.hid ((hb2.block r (lt_heap HR0.out)).trans HR0.out)
  have HB2 := Lib.hid (HB0.out.trans (hb2.mono HB0.out.size))
  obtain ⟨D, hD⟩ : ∃ D, D = (vals (jobB l)).toArray := ⟨_, rfl⟩
  have hDs : D.size = 32 := by rw [hD]; simp [vals_length, jobB, shaB_len]
  rw [← hD] at hof ⊢
  have HSZ := Lib.hid (show (Tryd.prog.info? 33).map (·.size) = some D.size from info32 hDs)
  have HZZ := Lib.hid (show Y32.size = D.size by rw [hDs]; rfl)
  have HOO := Lib.hid (show D.all (·.oneCell') = true by rw [hD]; exact all_oneCell_toArray (vals_one _))
  have HY2 := Lib.hid hy2
  have HRr := Lib.hid (show w.heap.size ≤ r by rw [HRW.out]; exact Nat.le_refl _)
  clear hr2 hb2 hs2 hD hDs hy2
  go_enter Tryd.func8, Tryd.ntmps8
  go_upto_region 1 with fail
  rw [HY0.out, ← HRW.out]
  go_wp2_with (first
    | (go_at_call 23; rw [HY2.out]; with_reducible refine hof.mono ?_; rintro e y7 ⟨rfl, hb7⟩; have HR7 := Lib.hid ((hb7.block r (lt_heap HR2.out)).trans HR2.out))
    | (refine Au.wpList_store_row rfl 33 (.tmp 2) (.tmp 6) rfl y7 Y32 D r 33 HR7.out rfl rfl HSZ.out HZZ.out HOO.out ?_))
  have hN2 := setRow_heap y7 r _ D _ _ HR7.out
  exact bodyPost_ret (v := .agg D) (results_cell_row Tryd.results8 _ _ r 33 D (0, 0) _ rfl hN2 Tryd.underlying33 rfl HSZ.out) rfl ⟨rfl, below_setRow (g := r) (HB2.out.trans (hb7.mono HB2.out.size)) HRr.out D⟩
end Go.Proofs.YtndpidmbfdpiaaaDoor.St
