/- Jobs: Parse, by the program: the scene of some bytes, or why there is none. -/
import Derived.Test.YtplcbdmiccpnnaaGreatC31
import Derived.Test.YtplcbdmiccpnnaaGreatC08
import Derived.Test.YtplcbdmiccpnnaaGreatC42
namespace Go.Proofs.YtplcbdmiccpnnaaGreat.Jb
open Go Go.RowKit Go.Proofs.YtplcbdmiccpnnaaGreat Go.Proofs.YtplcbdmiccpnnaaGreat.Rp Go.Proofs.YtplcbdmiccpnnaaGreat.Re Go.Proofs.YtplcbdmiccpnnaaGreat.Au Go.Proofs.YtplcbdmiccpnnaaGreat.Sc Go.Proofs.YtplcbdmiccpnnaaGreat.Tk
set_option linter.unusedVariables false
set_option linter.unusedSimpArgs false

theorem results_row2 {P : Program} {fn : Func} {tmps : Array Value} {a c : Nat} {ty t : TypeId} {b : Nat} {cs : Array Value} {d : TypeDesc} {w : World} {v : Value} (hf : fn.results = #[.cell a ty, .tmp c]) (hp : tmps.getD a undef = .pointer (some ⟨b, 0, none⟩)) (hv : tmps.getD c undef = v) (hg : w.heap[b]? = some (.cells cs t (0, 0)))
    (hu : P.underlying ty = some d) (hd : (match d with | .struct _ | .array _ _ => true | _ => false) = true) (hi : (P.info? ty).map (·.size) = some cs.size) : (results fn tmps).run P w = .ok (.tuple #[.agg cs, v]) w := by
  have hl := run_loadVar_row (P := P) w b t ty cs (0, 0) d hg hu hd hi
  unfold results
  rw [hf]
  simp only [List.mapM_toArray, List.mapM_cons, List.mapM_nil, Sem.run_bind, Sem.run_pure, hp, hv, asAddr, hl, Result.andThen_ok, Sem.run_map, bind_pure_comp, map_pure]
  simp

/-- a scene of nothing -/
def zeroC : Array Value := #[.int .i64 0, .int .i64 0, .int .i64 0, .int .i64 0, .int .i64 0, .int .i64 0, .int .u64 0, .int .i64 0, .int .i64 0, .int .i64 0, .int .i64 0, .int .i64 0, .int .i64 0, .slice none 0 0, .slice none 0 0, .slice none 0 0, .slice none 0 0]

/-- what is wrong with some bytes, once they are read as a scene; 0: nothing -/
def readE (l : List UInt8) : Int := (endS (sceneE (l, 0))).2

/-- what is wrong with some bytes as a job; 0: nothing -/
def parE (l : List UInt8) : Int := if 65536 < l.length then 8 else if readE l = 0 then (chk (parScn (l, 0))).1 else readE l

theorem infoSC : (Tryz.prog.info? 36).map (·.size) = some (#[.int .i64 0, .int .i64 0, .int .i64 0, .int .i64 0, .int .i64 0, .int .i64 0, .int .u64 0, .int .i64 0, .int .i64 0, .int .i64 0, .int .i64 0, .int .i64 0, .int .i64 0, .slice none 0 0, .slice none 0 0, .slice none 0 0, .slice none 0 0] : Array Value).size := by kernel_rfl

set_option maxHeartbeats 8000000 in
set_option maxRecDepth 100000 in
theorem jparse_more (a : Option Addr) (n c : Nat) (w : World) (h : 65536 < n) :
    Calls Tryz.prog 4 #[.slice a n c] w fun e w' => e = .returned (.tuple #[.agg zeroC, .int .i64 8]) ∧ Below w.heap.size w w' := by
  have d := decide_eq_true (show (65536 : Int) < (n : Int) by omega)
  have HZ1 := Lib.hid (show (#[.int .i64 0, .int .i64 0, .int .i64 0, .int .i64 0, .int .i64 0, .int .i64 0, .int .u64 0, .int .i64 0, .int .i64 0, .int .i64 0, .int .i64 0, .int .i64 0, .int .i64 0, .slice none 0 0, .slice none 0 0, .slice none 0 0, .slice none 0 0] : Array Value).all (·.oneCell') = true by simp [Value.oneCell'])
  go_enter Tryz.func4, Tryz.ntmps4
  go_upto_region 1 with fail
  have hR := heap_alloc_last w (.cells #[.int .i64 0, .int .i64 0, .int .i64 0, .int .i64 0, .int .i64 0, .int .i64 0, .int .u64 0, .int .i64 0, .int .i64 0, .int .i64 0, .int .i64 0, .int .i64 0, .int .i64 0, .slice none 0 0, .slice none 0 0, .slice none 0 0, .slice none 0 0] 36)
  have HUx := Ve.below_n1 w (.cells #[.int .i64 0, .int .i64 0, .int .i64 0, .int .i64 0, .int .i64 0, .int .i64 0, .int .u64 0, .int .i64 0, .int .i64 0, .int .i64 0, .int .i64 0, .int .i64 0, .int .i64 0, .slice none 0 0, .slice none 0 0, .slice none 0 0, .slice none 0 0] 36)
  obtain ⟨y0, hy0⟩ : ∃ y0, w.alloc (.cells #[.int .i64 0, .int .i64 0, .int .i64 0, .int .i64 0, .int .i64 0, .int .i64 0, .int .u64 0, .int .i64 0, .int .i64 0, .int .i64 0, .int .i64 0, .int .i64 0, .int .i64 0, .slice none 0 0, .slice none 0 0, .slice none 0 0, .slice none 0 0] 36) = y0 := ⟨_, rfl⟩
  rw [hy0] at hR HUx ⊢
  clear hy0
  have hl0 := lt_heap hR
  have HR0 := Lib.hid (show y0.heap[w.heap.size]? = some (.cells zeroC 36 (0, 0)) from hR)
  have HU0 := Lib.hid HUx
  clear hR HUx
  go_upto_region 2 with fail
  go_wp2_with (refine Au.wpList_store_row rfl 36 (.tmp 2) (.tmp 10) rfl y0 zeroC #[.int .i64 0, .int .i64 0, .int .i64 0, .int .i64 0, .int .i64 0, .int .i64 0, .int .u64 0, .int .i64 0, .int .i64 0, .int .i64 0, .int .i64 0, .int .i64 0, .int .i64 0, .slice none 0 0, .slice none 0 0, .slice none 0 0, .slice none 0 0] (w.heap.size) 36 HR0.out rfl rfl infoSC rfl HZ1.out ?_)
  have hN := setRow_heap _ (w.heap.size) _ #[.int .i64 0, .int .i64 0, .int .i64 0, .int .i64 0, .int .i64 0, .int .i64 0, .int .u64 0, .int .i64 0, .int .i64 0, .int .i64 0, .int .i64 0, .int .i64 0, .int .i64 0, .slice none 0 0, .slice none 0 0, .slice none 0 0, .slice none 0 0] _ _ HR0.out
  have HUz := below_setRow (g := w.heap.size) HU0.out (Nat.le_refl _) #[.int .i64 0, .int .i64 0, .int .i64 0, .int .i64 0, .int .i64 0, .int .i64 0, .int .u64 0, .int .i64 0, .int .i64 0, .int .i64 0, .int .i64 0, .int .i64 0, .int .i64 0, .slice none 0 0, .slice none 0 0, .slice none 0 0, .slice none 0 0]
  obtain ⟨yz, hyz⟩ : ∃ y, y0.setRow (w.heap.size) #[.int .i64 0, .int .i64 0, .int .i64 0, .int .i64 0, .int .i64 0, .int .i64 0, .int .u64 0, .int .i64 0, .int .i64 0, .int .i64 0, .int .i64 0, .int .i64 0, .int .i64 0, .slice none 0 0, .slice none 0 0, .slice none 0 0, .slice none 0 0] = y := ⟨_, rfl⟩
  rw [hyz] at hN HUz ⊢
  clear hyz
  go_wp2
  exact bodyPost_ret (v := .tuple #[.agg zeroC, .int .i64 8]) (results_row2 (t := 36) Tryz.results4 rfl rfl hN Tryz.underlying36 rfl infoSC) rfl ⟨rfl, HUz⟩

set_option maxHeartbeats 8000000 in
set_option maxRecDepth 100000 in
theorem jparse_at (l : List UInt8) (s : Scn) (t t2 : St) (er : Int)
    (C : ∀ (gr B : Nat) (W : World), RP (.pointer (some ⟨gr, 0, none⟩)) gr B (l, 0) W → gr < W.heap.size → B ≤ W.heap.size → Calls Tryz.prog 10 #[.agg #[.pointer (some ⟨gr, 0, none⟩)]] W fun e' w' => (∃ a, e' = .returned (SV s a) ∧ ∀ w2 : World, (∀ k, W.heap.size ≤ k → k < w'.heap.size → w2.heap[k]? = w'.heap[k]?) → ScAt w2 s a) ∧ RP (.pointer (some ⟨gr, 0, none⟩)) gr B t w' ∧ Aft gr W.heap.size W w')
    (E : ∀ (gr B : Nat) (W : World), RP (.pointer (some ⟨gr, 0, none⟩)) gr B t W → Calls Tryz.prog 11 #[.pointer (some ⟨gr, 0, none⟩)] W fun e w' => e = .returned (.int .i64 er) ∧ RP (.pointer (some ⟨gr, 0, none⟩)) gr B t2 w' ∧ Aft gr W.heap.size W w')
    (a : Option Addr) (n c : Nat) (w : World) (hv : Bs w (.slice a n c) l) (hn : l.length = n) (h : ¬ 65536 < n) :
    Calls Tryz.prog 4 #[.slice a n c] w fun e w' => ((¬ er = 0 ∧ e = .returned (.tuple #[.agg zeroC, .int .i64 er])) ∨ (er = 0 ∧ ¬ (chk s).1 = 0 ∧ e = .returned (.tuple #[.agg zeroC, .int .i64 (chk s).1])) ∨ (er = 0 ∧ (chk s).1 = 0 ∧ ∃ a, e = .returned (.tuple #[SV s a, .int .i64 0]) ∧ (∀ w2 : World, (∀ k, w.heap.size ≤ k → k < w'.heap.size → w2.heap[k]? = w'.heap[k]?) → ScAt w2 s a))) ∧ Below w.heap.size w w' := by
  have d := decide_eq_false (show ¬ (65536 : Int) < (n : Int) by omega)
  have HV := Lib.hid hv
  have HC := Lib.hid C
  have HE := Lib.hid E
  clear hv C E
  have HZ1 := Lib.hid (show (#[.int .i64 0, .int .i64 0, .int .i64 0, .int .i64 0, .int .i64 0, .int .i64 0, .int .u64 0, .int .i64 0, .int .i64 0, .int .i64 0, .int .i64 0, .int .i64 0, .int .i64 0, .slice none 0 0, .slice none 0 0, .slice none 0 0, .slice none 0 0] : Array Value).all (·.oneCell') = true by simp [Value.oneCell'])
  go_enter Tryz.func4, Tryz.ntmps4
  go_upto_region 1 with fail
  have hR := heap_alloc_last w (.cells #[.int .i64 0, .int .i64 0, .int .i64 0, .int .i64 0, .int .i64 0, .int .i64 0, .int .u64 0, .int .i64 0, .int .i64 0, .int .i64 0, .int .i64 0, .int .i64 0, .int .i64 0, .slice none 0 0, .slice none 0 0, .slice none 0 0, .slice none 0 0] 36)
  have HUx := Ve.below_n1 w (.cells #[.int .i64 0, .int .i64 0, .int .i64 0, .int .i64 0, .int .i64 0, .int .i64 0, .int .u64 0, .int .i64 0, .int .i64 0, .int .i64 0, .int .i64 0, .int .i64 0, .int .i64 0, .slice none 0 0, .slice none 0 0, .slice none 0 0, .slice none 0 0] 36)
  obtain ⟨y0, hy0⟩ : ∃ y0, w.alloc (.cells #[.int .i64 0, .int .i64 0, .int .i64 0, .int .i64 0, .int .i64 0, .int .i64 0, .int .u64 0, .int .i64 0, .int .i64 0, .int .i64 0, .int .i64 0, .int .i64 0, .int .i64 0, .slice none 0 0, .slice none 0 0, .slice none 0 0, .slice none 0 0] 36) = y0 := ⟨_, rfl⟩
  rw [hy0] at hR HUx ⊢
  clear hy0
  have hl0 := lt_heap hR
  have HR0 := Lib.hid (show y0.heap[w.heap.size]? = some (.cells zeroC 36 (0, 0)) from hR)
  have HU0 := Lib.hid HUx
  clear hR HUx
  go_wp2_with fail
  clear d
  refine (read_any l _ _ (HV.out.on HU0.out) (by omega)).mono ?_
  rintro e y1 ⟨⟨gr, rfl, hrr⟩, hb1⟩
  have HR1 := Lib.hid ((hb1.block _ (lt_heap HR0.out)).trans HR0.out)
  have hz1 := hb1.size
  have HU1 := Lib.hid (HU0.out.trans (hb1.mono (Nat.le_of_lt hl0)))
  have HRR := Lib.hid hrr.out.rat
  have hgr := hrr.out.1
  have hE := hrr.out.2.1
  clear hrr hb1 HR0 HU0
  go_upto_region 4 with fail
  have hb2 := Ve.below_n1 y1 (.cells #[.pointer (some ⟨gr, 0, none⟩)] 59)
  have hN := heap_alloc_last y1 (.cells #[.pointer (some ⟨gr, 0, none⟩)] 59)
  obtain ⟨y2, hy2⟩ : ∃ y, y1.alloc (.cells #[.pointer (some ⟨gr, 0, none⟩)] 59) = y := ⟨_, rfl⟩
  rw [hy2] at hb2 hN ⊢
  clear hy2
  have hl2 := lt_heap hN
  have hz2 := hb2.size
  have HR2 := Lib.hid ((hb2.block _ (lt_heap HR1.out)).trans HR1.out)
  have HD2 := Lib.hid hN
  have HU2 := Lib.hid (HU1.out.trans (hb2.mono (by omega)))
  have HP2 := Lib.hid (show RP (.pointer (some ⟨gr, 0, none⟩)) gr y1.heap.size (l, 0) y2 from .inr ⟨rfl, HRR.out.on hb2⟩)
  have HWZ := Lib.hid (show (Tryz.prog.info? 59).map (·.size) = some (#[.pointer (some ⟨gr, 0, none⟩)] : Array Value).size by kernel_rfl)
  clear hb2 hN HR1 HU1 HRR
  go_wp2_with (with_reducible refine wpList_load_row rfl 59 (.tmp 4) rfl (y1.heap.size) rfl 59 #[.pointer (some ⟨gr, 0, none⟩)] (0, 0) _ HD2.out Tryz.underlying59 rfl HWZ.out ?_)
  refine (HC.out gr _ _ HP2.out (by omega) (by omega)).mono ?_
  rintro e y3 ⟨⟨pl, rfl, hsc⟩, hp3, ha3⟩
  have HR3 := Lib.hid ((ha3.block _ (by omega) (by omega) (by omega)).trans HR2.out)
  have HD3 := Lib.hid ((ha3.block _ (by omega) (by omega) (by omega)).trans HD2.out)
  have HU3 := Lib.hid (HU2.out.trans (ha3.below (by omega) (by omega) (by omega)))
  have hz3 := ha3.size
  have HP3 := Lib.hid hp3
  have HS3 := Lib.hid hsc
  clear hsc hp3 ha3 HR2 HD2 HU2 HP2 HC HWZ
  obtain ⟨cs, hcs⟩ : ∃ cs : List Value, SC s pl = cs.toArray := ⟨(SC s pl).toList, by simp⟩
  have hsv : SV s pl = .agg cs.toArray := by show Value.agg _ = _; rw [hcs]
  have HZ := Lib.hid (show (Tryz.prog.info? 36).map (·.size) = some cs.toArray.size by rw [← hcs]; kernel_rfl)
  have HZZ := Lib.hid (show (#[.int .i64 0, .int .i64 0, .int .i64 0, .int .i64 0, .int .i64 0, .int .i64 0, .int .u64 0, .int .i64 0, .int .i64 0, .int .i64 0, .int .i64 0, .int .i64 0, .int .i64 0, .slice none 0 0, .slice none 0 0, .slice none 0 0, .slice none 0 0] : Array Value).size = cs.toArray.size by rw [← hcs]; rfl)
  have HZC := Lib.hid (show zeroC.size = cs.toArray.size by rw [← hcs]; rfl)
  have HONE := Lib.hid (show cs.toArray.all (·.oneCell') = true by rw [← hcs]; simp [Value.oneCell'])
  rw [hsv]
  have HSV := Lib.hid hsv
  clear hsv hcs
  go_upto_region 5 with (with_reducible refine wpList_store_new rfl 36 (.tmp 5) (.tmp 15) rfl y3 #[.int .i64 0, .int .i64 0, .int .i64 0, .int .i64 0, .int .i64 0, .int .i64 0, .int .u64 0, .int .i64 0, .int .i64 0, .int .i64 0, .int .i64 0, .int .i64 0, .int .i64 0, .slice none 0 0, .slice none 0 0, .slice none 0 0, .slice none 0 0] cs.toArray y3.heap.size rfl rfl rfl HZ.out HZZ.out HONE.out ?_)
  have hb4 := Ve.below_n1 y3 (.cells cs.toArray 36)
  have hN := heap_alloc_last y3 (.cells cs.toArray 36)
  obtain ⟨y4, hy4⟩ : ∃ y, y3.alloc (.cells cs.toArray 36) = y := ⟨_, rfl⟩
  rw [hy4] at hb4 hN ⊢
  clear hy4
  have hl4 := lt_heap hN
  have hz4 := hb4.size
  have HR4 := Lib.hid ((hb4.block _ (lt_heap HR3.out)).trans HR3.out)
  have HD4 := (hb4.block _ (lt_heap HD3.out)).trans HD3.out
  have HC4 := Lib.hid hN
  have HU4 := Lib.hid (HU3.out.trans (hb4.mono (by omega)))
  have HP4 := Lib.hid (HP3.out.new hb4)
  have HB4 := Lib.hid hb4
  have c4 := cell_of_row _ _ 0 _ _ _ HD4
  simp at c4
  clear hb4 hN HR3 HD3 HU3 HP3 HD4
  go_wp2_with fail
  clear c4
  refine (HE.out gr _ _ HP4.out).mono ?_
  rintro e y5 ⟨rfl, hp5, ha5⟩
  have HR5 := Lib.hid ((ha5.block _ (by omega) (by omega) (by omega)).trans HR4.out)
  have HC5 := Lib.hid ((ha5.block _ (by omega) (by omega) (by omega)).trans HC4.out)
  have HU5 := Lib.hid (HU4.out.trans (ha5.below (by omega) (by omega) (by omega)))
  have HK5 := Lib.hid (show ∀ k, y2.heap.size ≤ k → k < y3.heap.size → y5.heap[k]? = y3.heap[k]? from fun k h1 h2 => (ha5.block k (by omega) (by omega) (by omega)).trans (HB4.out.block k h2))
  have HS5 := Lib.hid (HS3.out _ HK5.out)
  have hz5 := ha5.size
  clear hp5 ha5 HR4 HC4 HU4 HP4 HB4 HE
  by_cases h0 : er = 0
  · subst h0
    go_wp2_with (with_reducible refine wpList_load_row rfl 36 (.tmp 5) rfl (y3.heap.size) rfl 36 cs.toArray (0, 0) _ HC5.out Tryz.underlying36 rfl HZ.out ?_)
    rw [← HSV.out]
    refine (check_any s pl _ HS5.out).mono ?_
    rintro e y6 ⟨rfl, hb6⟩
    rw [HSV.out]
    have HR6 := Lib.hid ((hb6.block _ (lt_heap HR5.out)).trans HR5.out)
    have HC6 := Lib.hid ((hb6.block _ (lt_heap HC5.out)).trans HC5.out)
    have HU6 := Lib.hid (HU5.out.trans (hb6.mono (by omega)))
    have hz6b := hb6.size
    have HK6 := Lib.hid (show ∀ k, y2.heap.size ≤ k → k < y3.heap.size → y6.heap[k]? = y3.heap[k]? from fun k h1 h2 => (hb6.block k (by omega)).trans (HK5.out k h1 h2))
    clear hb6 HK5 HR5 HC5 HU5 HS5
    obtain ⟨kc, hkc⟩ : ∃ kc, kc = (chk s).1 := ⟨_, rfl⟩
    obtain ⟨kp, hkp⟩ : ∃ kp, kp = (chk s).2 := ⟨_, rfl⟩
    rw [← hkc, ← hkp]
    have HKC := Lib.hid hkc
    clear hkc hkp
    by_cases h1 : kc = 0
    · subst h1
      go_upto_region 10 with fail
      go_wp2_with (first | (with_reducible refine wpList_load_row rfl 36 (.tmp 5) rfl (y3.heap.size) rfl 36 cs.toArray (0, 0) _ HC6.out Tryz.underlying36 rfl HZ.out ?_) | (refine Au.wpList_store_row rfl 36 (.tmp 2) (.tmp 30) rfl y6 zeroC cs.toArray (w.heap.size) 36 HR6.out rfl rfl HZ.out HZC.out HONE.out ?_))
      have hN := setRow_heap _ (w.heap.size) _ cs.toArray _ _ HR6.out
      have HUz := below_setRow (g := w.heap.size) HU6.out (Nat.le_refl _) cs.toArray
      have hszr : (y6.setRow (w.heap.size) cs.toArray).heap.size = y6.heap.size := by simp [World.setRow]
      have hz6 := HU6.out.size
      have HSz := Lib.hid (show ∀ w2 : World, (∀ k, w.heap.size ≤ k → k < (y6.setRow (w.heap.size) cs.toArray).heap.size → w2.heap[k]? = (y6.setRow (w.heap.size) cs.toArray).heap[k]?) → ScAt w2 s pl from fun w2 h2 => HS3.out _ fun k h1 h2' => (h2 k (by omega) (by rw [hszr]; omega)).trans ((setRow_other _ _ _ _ (by omega)).trans (HK6.out k h1 h2')))
      clear hszr
      obtain ⟨yz, hyz⟩ : ∃ y, y6.setRow (w.heap.size) cs.toArray = y := ⟨_, rfl⟩
      rw [hyz] at hN HUz HSz ⊢
      clear hyz
      go_wp2
      exact bodyPost_ret (v := .tuple #[.agg cs.toArray, .int .i64 0]) (results_row2 (t := 36) Tryz.results4 rfl rfl hN Tryz.underlying36 rfl HZ.out) rfl ⟨.inr ⟨HKC.out.symm, pl, by rw [HSV.out], HSz.out⟩, HUz⟩
    · have d1 : (kc != 0) = true := by simp [h1]
      have d2 : (kc == 0) = false := by simpa using h1
      have d3 := decide_eq_false h1
      go_upto_region 9 with fail
      go_wp2_with (refine Au.wpList_store_row rfl 36 (.tmp 2) (.tmp 28) rfl y6 zeroC #[.int .i64 0, .int .i64 0, .int .i64 0, .int .i64 0, .int .i64 0, .int .i64 0, .int .u64 0, .int .i64 0, .int .i64 0, .int .i64 0, .int .i64 0, .int .i64 0, .int .i64 0, .slice none 0 0, .slice none 0 0, .slice none 0 0, .slice none 0 0] (w.heap.size) 36 HR6.out rfl rfl infoSC rfl HZ1.out ?_)
      have hN := setRow_heap _ (w.heap.size) _ #[.int .i64 0, .int .i64 0, .int .i64 0, .int .i64 0, .int .i64 0, .int .i64 0, .int .u64 0, .int .i64 0, .int .i64 0, .int .i64 0, .int .i64 0, .int .i64 0, .int .i64 0, .slice none 0 0, .slice none 0 0, .slice none 0 0, .slice none 0 0] _ _ HR6.out
      have HUz := below_setRow (g := w.heap.size) HU6.out (Nat.le_refl _) #[.int .i64 0, .int .i64 0, .int .i64 0, .int .i64 0, .int .i64 0, .int .i64 0, .int .u64 0, .int .i64 0, .int .i64 0, .int .i64 0, .int .i64 0, .int .i64 0, .int .i64 0, .slice none 0 0, .slice none 0 0, .slice none 0 0, .slice none 0 0]
      obtain ⟨yz, hyz⟩ : ∃ y, y6.setRow (w.heap.size) #[.int .i64 0, .int .i64 0, .int .i64 0, .int .i64 0, .int .i64 0, .int .i64 0, .int .u64 0, .int .i64 0, .int .i64 0, .int .i64 0, .int .i64 0, .int .i64 0, .int .i64 0, .slice none 0 0, .slice none 0 0, .slice none 0 0, .slice none 0 0] = y := ⟨_, rfl⟩
      rw [hyz] at hN HUz ⊢
      clear hyz
      go_wp2
      exact bodyPost_ret (v := .tuple #[.agg zeroC, .int .i64 kc]) (results_row2 (t := 36) Tryz.results4 rfl rfl hN Tryz.underlying36 rfl infoSC) rfl ⟨.inl ⟨by rw [← HKC.out]; exact h1, by rw [HKC.out]⟩, HUz⟩
  · have d1 : (er != 0) = true := by simp [h0]
    have d2 : (er == 0) = false := by simpa using h0
    have d3 := decide_eq_false h0
    go_upto_region 9 with fail
    go_wp2_with (refine Au.wpList_store_row rfl 36 (.tmp 2) (.tmp 28) rfl y5 zeroC #[.int .i64 0, .int .i64 0, .int .i64 0, .int .i64 0, .int .i64 0, .int .i64 0, .int .u64 0, .int .i64 0, .int .i64 0, .int .i64 0, .int .i64 0, .int .i64 0, .int .i64 0, .slice none 0 0, .slice none 0 0, .slice none 0 0, .slice none 0 0] (w.heap.size) 36 HR5.out rfl rfl infoSC rfl HZ1.out ?_)
    have hN := setRow_heap _ (w.heap.size) _ #[.int .i64 0, .int .i64 0, .int .i64 0, .int .i64 0, .int .i64 0, .int .i64 0, .int .u64 0, .int .i64 0, .int .i64 0, .int .i64 0, .int .i64 0, .int .i64 0, .int .i64 0, .slice none 0 0, .slice none 0 0, .slice none 0 0, .slice none 0 0] _ _ HR5.out
    have HUz := below_setRow (g := w.heap.size) HU5.out (Nat.le_refl _) #[.int .i64 0, .int .i64 0, .int .i64 0, .int .i64 0, .int .i64 0, .int .i64 0, .int .u64 0, .int .i64 0, .int .i64 0, .int .i64 0, .int .i64 0, .int .i64 0, .int .i64 0, .slice none 0 0, .slice none 0 0, .slice none 0 0, .slice none 0 0]
    obtain ⟨yz, hyz⟩ : ∃ y, y5.setRow (w.heap.size) #[.int .i64 0, .int .i64 0, .int .i64 0, .int .i64 0, .int .i64 0, .int .i64 0, .int .u64 0, .int .i64 0, .int .i64 0, .int .i64 0, .int .i64 0, .int .i64 0, .int .i64 0, .slice none 0 0, .slice none 0 0, .slice none 0 0, .slice none 0 0] = y := ⟨_, rfl⟩
    rw [hyz] at hN HUz ⊢
    clear hyz
    go_wp2
    exact bodyPost_ret (v := .tuple #[.agg zeroC, .int .i64 er]) (results_row2 (t := 36) Tryz.results4 rfl rfl hN Tryz.underlying36 rfl infoSC) rfl ⟨.inl ⟨h0, rfl⟩, HUz⟩

/-- Parse, by the program; the scene lies in every later world that agrees from the call's size on -/
theorem jparse_far (l : List UInt8) (a : Option Addr) (n c : Nat) (w : World) (hv : Bs w (.slice a n c) l) (hn : l.length = n) :
    Calls Tryz.prog 4 #[.slice a n c] w fun e w' => ((¬ parE l = 0 ∧ e = .returned (.tuple #[.agg zeroC, .int .i64 (parE l)])) ∨ (parE l = 0 ∧ (chk (parScn (l, 0))).1 = 0 ∧ ∃ a, e = .returned (.tuple #[SV (parScn (l, 0)) a, .int .i64 0]) ∧ (∀ w2 : World, (∀ k, w.heap.size ≤ k → k < w'.heap.size → w2.heap[k]? = w'.heap[k]?) → ScAt w2 (parScn (l, 0)) a))) ∧ Below w.heap.size w w' := by
  by_cases h : 65536 < n
  · have e : parE l = 8 := by unfold parE; rw [if_pos (by omega)]
    refine (jparse_more a n c w h).mono fun e' w' ⟨h1, h2⟩ => ⟨.inl ⟨?_, ?_⟩, h2⟩
    · rw [e]; omega
    · rw [e]; exact h1
  · have e : parE l = if readE l = 0 then (chk (parScn (l, 0))).1 else readE l := by unfold parE; rw [if_neg (by omega)]
    have C := fun (gr B : Nat) (W : World) h1 h2 h3 => jscene gr (B := B) (l, 0) W h1 h2 h3
    have E := fun (gr B : Nat) (W : World) h1 => end_any (.pointer (some ⟨gr, 0, none⟩)) gr (B := B) (sceneE (l, 0)) W h1
    generalize hR : readE l = er at e
    have hR' : (endS (sceneE (l, 0))).2 = er := hR
    rw [hR'] at E
    generalize parScn (l, 0) = s at e C ⊢
    generalize endS (sceneE (l, 0)) = t2 at E
    generalize sceneE (l, 0) = t at C E
    refine (jparse_at l s t t2 er C E a n c w hv hn h).mono fun e' w' ⟨h1, h2⟩ => ⟨?_, h2⟩
    rcases h1 with ⟨h3, h4⟩ | ⟨h3, h4, h5⟩ | ⟨h3, h4, h5⟩
    · rw [if_neg h3] at e; exact .inl ⟨by rw [e]; exact h3, by rw [e]; exact h4⟩
    · rw [if_pos h3] at e; exact .inl ⟨by rw [e]; exact h4, by rw [e]; exact h5⟩
    · rw [if_pos h3] at e; exact .inr ⟨by rw [e]; exact h4, h4, h5⟩

/-- Parse, by the program -/
theorem jparse (l : List UInt8) (a : Option Addr) (n c : Nat) (w : World) (hv : Bs w (.slice a n c) l) (hn : l.length = n) :
    Calls Tryz.prog 4 #[.slice a n c] w fun e w' => ((¬ parE l = 0 ∧ e = .returned (.tuple #[.agg zeroC, .int .i64 (parE l)])) ∨ (parE l = 0 ∧ (chk (parScn (l, 0))).1 = 0 ∧ ∃ a, e = .returned (.tuple #[SV (parScn (l, 0)) a, .int .i64 0]) ∧ ScAt w' (parScn (l, 0)) a)) ∧ Below w.heap.size w w' :=
  (jparse_far l a n c w hv hn).mono fun e w' ⟨h1, h2⟩ => ⟨by
    rcases h1 with h1 | ⟨h1, h3, a, h4, h5⟩
    · exact .inl h1
    · exact .inr ⟨h1, h3, a, h4, h5 w' fun _ _ _ => rfl⟩, h2⟩

end Go.Proofs.YtplcbdmiccpnnaaGreat.Jb
