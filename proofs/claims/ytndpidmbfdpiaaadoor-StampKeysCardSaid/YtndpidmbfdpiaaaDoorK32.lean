/- Layer 26 (stamp): the plan of works; the law's awake. -/
import Derived.Test.YtndpidmbfdpiaaaDoorK31
import Derived.Test.YtndpidmbfdpiaaaDoorK27
namespace Go.Proofs.YtndpidmbfdpiaaaDoor.St
open Go Go.RowKit Go.Proofs.YtndpidmbfdpiaaaDoor Go.Proofs.YtndpidmbfdpiaaaDoor.Au Go.Proofs.YtndpidmbfdpiaaaDoor.Re Go.Proofs.YtndpidmbfdpiaaaDoor.Se Go.Proofs.YtndpidmbfdpiaaaDoor.Pn
set_option linter.unusedVariables false
set_option linter.unusedSimpArgs false

theorem WAt.low {y0 w w' : World} {job : List UInt8} {a : Option Addr} {N c : Nat} {vs : List Value} (h : WAt y0 w' job a N c vs) (hb : Below w.heap.size w y0) : Below w.heap.size w w' := hb.trans (h.below.mono hb.size)

theorem WAt.at {y0 w : World} {job : List UInt8} {a : Option Addr} {N c : Nat} {vs : List Value} (h : WAt y0 w job a N c vs) {x : Nat} (hx : x < N) :
    ∃ q, a = some ⟨q, 0, none⟩ ∧ q < w.heap.size ∧ w.rangeAt q (x * 35) (wc ((x % 4 : Nat) : Int) ((x / 4 : Nat) : Int) ((klist job N).getD x []) (vs.getD x undef)) ∧ w.cell? ⟨q, x * 35 + 34, none⟩ = some (vs.getD x undef) ∧ Ro w (vs.getD x undef) (needM x) := by
  obtain ⟨q, h1, h2, h3, h4⟩ := own_w h.own (klist_32 job N) hx
  exact ⟨q, h1, h3, h4, own_need h4 (klist_32 job N x hx), (h.need x hx).1⟩

/-- what the works of a job need, one by one -/
def needsOf (N : Nat) : List (List Int) := (List.range N).map needM
theorem needsOf_len (N : Nat) : (needsOf N).length = N := by simp [needsOf]
theorem needsOf_at {N x : Nat} (h : x < N) : (needsOf N)[x]! = needM x := by
  rw [getElem!_pos _ _ (by rw [needsOf_len]; exact h)]
  simp [needsOf]

theorem infoS : (Tryd.prog.info? 47).map (fun i => (i.zero, i.size, i.bytes)) = some (some (.slice none 0 0), 1, 24) := by kernel_rfl

set_option maxHeartbeats 4000000 in
set_option maxRecDepth 100000 in
theorem plan_any (y0 : World) (job : List UInt8) (a : Option Addr) (N c : Nat) (vs : List Value) (w : World) (hW : WAt y0 w job a N c vs) (hN : N ≤ 200) :
    Calls Tryd.prog 16 #[.slice a N c] w fun e w' => (∃ b, e = .returned (.slice (some ⟨b, 0, none⟩) N N) ∧ PAt w' (some ⟨b, 0, none⟩) N (needsOf N)) ∧ Below w.heap.size w w' := by
  have HW := Lib.hid hW
  clear hW
  have hmk := fun w => run_make_row' (P := Tryd.prog) 45 47 (.slice none 0 0) 24 Tryd.underlying45 infoS rfl .i64 .i64 N (by omega) (by omega) w
  go_enter Tryd.func16, Tryd.ntmps16
  go_upto_region 2 with fail
  have hbd := Ve.below_n1 w (.cells (madeCells #[.slice none 0 0] N) 47)
  have hri := World.rowIs_made w (.slice none 0 0) N 47
  obtain ⟨y5, hy5⟩ : ∃ y, w.alloc (.cells (madeCells #[.slice none 0 0] N) 47) = y := ⟨_, rfl⟩
  obtain ⟨d, hd⟩ : ∃ q, q = w.heap.size := ⟨_, rfl⟩
  rw [hy5] at hbd hri ⊢
  rw [← hd] at hri ⊢
  have HGD := Lib.hid (show w.heap.size ≤ d by omega)
  have HB5 := Lib.hid hbd
  have HD5 := Lib.hid hri
  clear hbd hri hy5 hd hmk
  go_upto_region 3 with fail
  go_loopw [11] (fun v wr => ∃ i : Nat, i ≤ N ∧ v = .int .i64 i ∧ Hid (Below w.heap.size w wr) ∧ Hid (∃ F : Nat → Value, wr.rowIs d 47 N F ∧ ∀ j, j < i → Ro wr (F j) (needM j) ∧ ∀ b off n' c', F j = .slice (some ⟨b, off, none⟩) n' c' → b ≠ d)) (fun v _ => N - (intOf v).toNat)
  case atStart => exact ⟨0, by omega, rfl, HB5, Lib.hid ⟨_, HD5.out, fun j hj => absurd hj (Nat.not_lt_zero _)⟩⟩
  case round =>
    obtain ⟨i, hi, rfl, HB, HF⟩ := hrel
    by_cases hlt : i < N
    · have hlt' : (i : Int) < N := by omega
      obtain ⟨q, hqa, hqw, hrg, hcn, hro⟩ := (HW.out.on HB.out).at hlt
      subst hqa
      obtain ⟨nv, hnv⟩ : ∃ nv, nv = vs.getD i undef := ⟨_, rfl⟩
      have hnn := (HW.out.need i hlt).2.1
      rw [← hnv] at hrg hcn hro hnn
      have h32 := klist_32 job N i hlt
      obtain ⟨K, hK⟩ : ∃ K, K = (klist job N).getD i [] := ⟨_, rfl⟩
      rw [← hK] at hrg h32
      obtain ⟨RW, hRW⟩ : ∃ RW, RW = wc ((i % 4 : Nat) : Int) ((i / 4 : Nat) : Int) K nv := ⟨_, rfl⟩
      rw [← hRW] at hrg
      have hRl : RW.length = 35 := by rw [hRW, wc_len h32]
      have hRn : RW[34]? = some nv := by rw [hRW]; exact wc_need h32
      have hlen := need_len i
      obtain ⟨F, hF⟩ : ∃ F : Nat → Value, F = F := ⟨fun _ => undef, rfl⟩
      have HRG := Lib.hid hrg
      have HRO := Lib.hid hro
      have HNN := Lib.hid hnn
      have HRL := Lib.hid hRl
      have HRN := Lib.hid hRn
      have HSZ := Lib.hid (show (Tryd.prog.info? 49).map (·.size) = some RW.length by rw [hRl]; kernel_rfl)
      have HSZ2 := Lib.hid (show (Tryd.prog.info? 49).map (·.size) = some RW.toArray.size by simpa using HSZ.out)
      have HZZ := Lib.hid (show Y35.size = RW.toArray.size by rw [show Y35.size = 35 from rfl]; simp [hRl])
      have hone : ∀ u ∈ RW, u.oneCell' = true := by
        rw [hRW]
        obtain ⟨fa, fc, hform⟩ := hro.form
        rw [hform]
        exact wc_one rfl
      have HOO := Lib.hid (show RW.toArray.all (·.oneCell') = true from all_oneCell_toArray hone)
      have HAL := Lib.hid (heap_alloc_last wr (.cells Y35 49))
      clear hrg hro hnn hRl hRn hone hRW hK hnv h32 hcn hF F
      go_upto_region 5 with (first
        | (with_reducible refine wpList_load_mid rfl 49 (.tmp 14) rfl q (i * 35) rfl RW _ HRG.out Tryd.underlying49 rfl HSZ.out ?_)
        | (refine Au.wpList_store_row rfl 49 (.tmp 5) (.tmp 15) rfl (wr.alloc (.cells Y35 49)) Y35 RW.toArray wr.heap.size 49 HAL.out rfl rfl HSZ2.out HZZ.out HOO.out ?_))
      have hq0 := setRow_heap (wr.alloc (.cells Y35 49)) wr.heap.size _ RW.toArray _ _ HAL.out
      have hbq := below_setRow (g := wr.heap.size) (Ve.below_n1 wr (.cells Y35 49)) (Nat.le_refl _) RW.toArray
      obtain ⟨y4, hy4⟩ : ∃ y, (wr.alloc (.cells Y35 49)).setRow wr.heap.size RW.toArray = y := ⟨_, rfl⟩
      obtain ⟨r, hr⟩ : ∃ q, q = wr.heap.size := ⟨_, rfl⟩
      rw [hy4] at hq0 hbq ⊢
      rw [← hr] at hq0 ⊢
      have hcell : y4.cell? ⟨r, 34, none⟩ = some nv := by
        simp only [World.cell?, hq0]
        simpa using HRN.out
      have hcl := clone_any nv (needM i) y4 (HRO.out.on hbq) (by omega) HNN.out
      obtain ⟨F, hFr, hFn⟩ := HF.out
      have HB4 := Lib.hid (HB.out.trans (hbq.mono HB.out.size))
      have HF4 := Lib.hid (hFr.of_block (hbq.block d hFr.lt))
      have HN4 := Lib.hid (fun j hj => And.intro ((hFn j hj).1.on hbq) (fun b off n' c' e => (hFn j hj).2 b off n' c' e))
      clear hq0 hbq hy4 hr HAL hFr hFn
      have HDL := Lib.hid HF4.out.lt
      go_wp2_with (first
        | (go_at_call 33; refine hcl.mono ?_; rintro e y6 ⟨⟨cv, rfl, hcr, hcb⟩, hb6⟩; obtain ⟨ca, cc, hcf⟩ := hcr.form; obtain ⟨nl, hnl⟩ : ∃ nl, nl = (needM i).length := ⟨_, rfl⟩; rw [← hnl] at hcf; subst hcf; have HNL := Lib.hid hnl; clear hnl; have HF6 := Lib.hid (HF4.out.of_block (hb6.block d HF4.out.lt)); have hdc := HF6.out.cell hlt; have hdf := HF6.out.frozen i))
      go_roundw
      case rel =>
        refine ⟨i + 1, by omega, by go_num, Lib.hid ((HB4.out.trans (hb6.mono HB4.out.size)).setCell (p := ⟨d, i, none⟩) HGD.out _), Lib.hid ⟨_, HF6.out.set i _, fun j hj => ?_⟩⟩
        by_cases e : j = i
        · subst e
          rw [if_pos rfl]
          refine ⟨Ro.keep hcr (by simp) fun b off n' c' e2 hb => Below.heap_setCell _ _ _ _ (by have := hcb b off n' c' e2; have := HDL.out; show b ≠ d; omega), fun b off n' c' e2 => by have := hcb b off n' c' e2; have := HDL.out; omega⟩
        · rw [if_neg e]
          have hh := HN4.out j (by omega)
          refine ⟨Ro.keep (hh.1.on hb6) (by simp) fun b off n' c' e2 hb => Below.heap_setCell _ _ _ _ (by show b ≠ d; exact hh.2 b off n' c' e2), fun b off n' c' e2 => hh.2 b off n' c' e2⟩
      case measure => simp [intOf]; omega
    · have hge : ¬ (i : Int) < N := by omega
      have hi' : i = N := by omega
      obtain ⟨F, hFr, hFn⟩ := HF.out
      have hP : PAt wr (some ⟨d, 0, none⟩) N (needsOf N) := ⟨(needsOf_len N).symm, by omega, by
        by_cases h0 : N = 0
        · exact .inl h0
        · exact .inr ⟨d, 0, rfl, hFr.lt, fun j hj => ⟨F j, by rw [Nat.zero_add]; exact hFr.cell hj, by rw [needsOf_at hj]; exact (hFn j (by omega)).1⟩⟩⟩
      have HP := Lib.hid hP
      clear hP hFr hFn hi'
      go_wp2_with fail
      go_ret
      exact ⟨⟨d, rfl, HP.out⟩, HB.out⟩
end Go.Proofs.YtndpidmbfdpiaaaDoor.St
