/- Films, sheets, read off bytes, by the program: DecodeSheet, Decode. -/
import Derived.Test.YtgkfoiekminfmaaFk
import Derived.Test.YtgkfoiekminfmaaRdr
namespace Go.Proofs.Ytgkfoiekminfmaa.Fm
open Go Go.RowKit Go.Proofs.Ytgkfoiekminfmaa Go.Proofs.Ytgkfoiekminfmaa.Rp Go.Proofs.Ytgkfoiekminfmaa.Re Go.Proofs.Ytgkfoiekminfmaa.Au
set_option linter.unusedVariables false
set_option linter.unusedSimpArgs false

theorem results_row2 {P : Program} {fn : Func} {tmps : Array Value} {a c : Nat} {ty t : TypeId} {b : Nat} {cs : Array Value} {d : TypeDesc} {w : World} {v : Value} (hf : fn.results = #[.cell a ty, .tmp c]) (hp : tmps.getD a undef = .pointer (some ⟨b, 0, none⟩)) (hv : tmps.getD c undef = v) (hg : w.heap[b]? = some (.cells cs t (0, 0)))
    (hu : P.underlying ty = some d) (hd : (match d with | .struct _ | .array _ _ => true | _ => false) = true) (hi : (P.info? ty).map (·.size) = some cs.size) : (results fn tmps).run P w = .ok (.tuple #[.agg cs, v]) w := by
  have hl := run_loadVar_row (P := P) w b t ty cs (0, 0) d hg hu hd hi
  unfold results
  rw [hf]
  simp only [List.mapM_toArray, List.mapM_cons, List.mapM_nil, Sem.run_bind, Sem.run_pure, hp, hv, asAddr, hl, Result.andThen_ok, Sem.run_map, bind_pure_comp, map_pure]
  simp

theorem RwP.lower {c m m2 : Nat} {a : Option Addr} {n : Nat} {L : Nat → Int} {w : World} (h : RwP (fun b => m ≤ b) c w a n L) (hm : m2 ≤ m) : RwP (fun b => m2 ≤ b) c w a n L := h.weak fun b hb => by omega

set_option maxHeartbeats 8000000 in
set_option maxRecDepth 100000 in
theorem decsheet_ok (l : List UInt8) (ba : Option Addr) (bn bc : Nat) (W H : Int) (n : Nat) (M0 : Nat → Int) (t : St) (w : World) (hv : Bs w (.slice ba bn bc) l) (hl : l.length ≤ 140737488355328) (C : ∀ (g B : Nat) (X : World), RP (.pointer (some ⟨g, 0, none⟩)) g B (l, 0) X → g < X.heap.size → B ≤ X.heap.size → Calls Try.prog 41 #[.agg #[.pointer (some ⟨g, 0, none⟩)]] X fun e' w' => (∃ a c, e' = .returned (.agg #[.int .i64 W, .int .i64 H, .slice a n c]) ∧ RwP (fun b => X.heap.size ≤ b) 3 w' a n M0) ∧ RP (.pointer (some ⟨g, 0, none⟩)) g B t w' ∧ Aft g X.heap.size X w') (er : Int) (hE : er = (endS t).2) (h0 : er = 0) : Calls Try.prog 20 #[.slice ba bn bc] w fun e' w' => (∃ a c, e' = .returned (.tuple #[.agg #[.int .i64 W, .int .i64 H, .slice a n c], .int .i64 0]) ∧ RwP (fun b => w.heap.size ≤ b) 3 w' a n M0) ∧ Below w.heap.size w w' := by
  have HV := Lib.hid hv
  clear hv
  have HC := Lib.hid C
  have HE := Lib.hid hE
  clear C hE
  go_enter Try.func20, Try.ntmps20
  go_upto_region 1 with fail
  have hR := Au.rows1 w (.cells #[.int .i64 0, .int .i64 0, .slice none 0 0] 35)
  have HUx := Ve.below_n1 w (.cells #[.int .i64 0, .int .i64 0, .slice none 0 0] 35)
  obtain ⟨y0, hy0⟩ : ∃ y0, w.alloc (.cells #[.int .i64 0, .int .i64 0, .slice none 0 0] 35) = y0 := ⟨_, rfl⟩
  rw [hy0] at hR HUx ⊢
  clear hy0
  have HU0 := Lib.hid HUx
  clear HUx
  have hr0_0 := hR
  clear hR
  have hlz := lt_heap hr0_0
  have hz0 := HU0.out.size
  go_wp2_with fail
  refine (read_any l _ _ (HV.out.on HU0.out) hl).mono ?_
  rintro e y1 ⟨⟨gr, rfl, HRR⟩, hb1⟩
  have hr1_0 := (hb1.block _ (lt_heap hr0_0)).trans hr0_0
  have HU1 := Lib.hid (HU0.out.trans (hb1.mono HU0.out.size))
  clear hr0_0 HU0
  have hrr := HRR.out
  have hRP := Lib.hid (show RP (.pointer (some ⟨gr, 0, none⟩)) gr y1.heap.size (l, 0) y1 from .inr ⟨rfl, hrr.rat⟩)
  have hgr1 := hrr.1
  have hgr2 := hrr.2.1
  clear hrr HRR
  have hz1 := hb1.size
  go_upto_region 2 with fail
  have hb2 := Ve.below_n1 y1 (.cells #[.pointer (some ⟨gr, 0, none⟩)] 92)
  have hN := heap_alloc_last y1 (.cells #[.pointer (some ⟨gr, 0, none⟩)] 92)
  obtain ⟨y2, hy2⟩ : ∃ y, y1.alloc (.cells #[.pointer (some ⟨gr, 0, none⟩)] 92) = y := ⟨_, rfl⟩
  have hs2 : y2.heap.size = y1.heap.size + 1 := by rw [← hy2]; simp
  rw [hy2] at hb2 hN ⊢
  clear hy2
  have hl2_0 := lt_heap hr1_0
  have hr2_0 := (hb2.block _ (lt_heap hr1_0)).trans hr1_0
  have HU2 := Lib.hid (HU1.out.trans (hb2.mono HU1.out.size))
  clear hr1_0 HU1
  have hr2_1 := hN
  clear hN
  have HPr := Lib.hid (hRP.out.new hb2)
  clear hRP
  have hz2 := hb2.size
  clear hs2
  have c1_0 := cell_of_row _ _ 0 _ _ _ hr2_1
  simp at c1_0
  go_wp2_with fail
  refine (HC.out gr y1.heap.size _ HPr.out (by omega) (by omega)).mono ?_
  rintro e y3 ⟨⟨al, cl, rfl, hla⟩, hp, ha⟩
  clear c1_0
  have hr3_0 := (ha.block _ (lt_heap hr2_0) (lt_heap hr2_0) (by have := lt_heap hr2_0; omega)).trans hr2_0
  have hr3_1 := (ha.block _ (lt_heap hr2_1) (lt_heap hr2_1) (by have := lt_heap hr2_1; omega)).trans hr2_1
  have HU3 := Lib.hid (HU2.out.trans (ha.below (by omega) (by omega) (by omega)))
  have HPs := Lib.hid hp
  have hz3 := ha.size
  clear hp ha HPr hr2_0 hr2_1 HU2
  have HAT3 := Lib.hid (show RwP (fun b => y2.heap.size ≤ b ∧ b < y3.heap.size) 3 y3 al n M0 from (hla.lt (by decide)).weak (fun b hb => by omega))
  clear hla
  go_upto_region 3 with fail
  have hb4 := Ve.below_n1 y3 (.cells #[.int .i64 W, .int .i64 H, .slice al n cl] 35)
  have hN := heap_alloc_last y3 (.cells #[.int .i64 W, .int .i64 H, .slice al n cl] 35)
  obtain ⟨y4, hy4⟩ : ∃ y, y3.alloc (.cells #[.int .i64 W, .int .i64 H, .slice al n cl] 35) = y := ⟨_, rfl⟩
  have hs4 : y4.heap.size = y3.heap.size + 1 := by rw [← hy4]; simp
  rw [hy4] at hb4 hN ⊢
  clear hy4
  have hl4_0 := lt_heap hr3_0
  have hl4_1 := lt_heap hr3_1
  have hr4_0 := (hb4.block _ (lt_heap hr3_0)).trans hr3_0
  have hr4_1 := (hb4.block _ (lt_heap hr3_1)).trans hr3_1
  have HU4 := Lib.hid (HU3.out.trans (hb4.mono HU3.out.size))
  clear hr3_0 hr3_1 HU3
  have hr4_2 := hN
  clear hN
  have HPt := Lib.hid (HPs.out.new hb4)
  clear HPs
  have hz4 := hb4.size
  clear hs4
  have HAT4 := Lib.hid (HAT3.out.keep (fun b hb => hb4.block b hb.2))
  clear HAT3
  have c1_0 := cell_of_row _ _ 0 _ _ _ hr4_1
  simp at c1_0
  go_wp2_with fail
  refine (end_any _ gr _ _ HPt.out).mono ?_
  rintro e y5 ⟨rfl, hp, ha⟩
  clear c1_0
  have hr5_0 := (ha.block _ (lt_heap hr4_0) (lt_heap hr4_0) (by omega)).trans hr4_0
  have hr5_1 := (ha.block _ (lt_heap hr4_1) (lt_heap hr4_1) (by omega)).trans hr4_1
  have hr5_2 := (ha.block _ (lt_heap hr4_2) (lt_heap hr4_2) (by omega)).trans hr4_2
  have HAT5 := Lib.hid (HAT4.out.keep (fun b hb => ha.block b (by omega) (by omega) (by omega)))
  clear HAT4
  have HU5 := Lib.hid (HU4.out.trans (ha.below (by omega) (by omega) (by omega)))
  have hz5 := ha.size
  clear hp ha HPt hr4_0 hr4_1 hr4_2 HU4
  rw [← HE.out]
  subst h0
  have c2_0 := cell_of_row _ _ 0 _ _ _ hr5_2
  have c2_1 := cell_of_row _ _ 1 _ _ _ hr5_2
  have c2_2 := cell_of_row _ _ 2 _ _ _ hr5_2
  simp at c2_0 c2_1 c2_2
  go_upto_region 6 with fail
  have hHr := Lib.hid hr5_0
  have hHi := Lib.hid (show (Try.prog.info? 35).map (·.size) = some (#[.int .i64 W, .int .i64 H, .slice al n cl] : Array Value).size by kernel_rfl)
  have hHz := Lib.hid (show (#[.int .i64 0, .int .i64 0, .slice none 0 0] : Array Value).size = (#[.int .i64 W, .int .i64 H, .slice al n cl] : Array Value).size from rfl)
  have hHo := Lib.hid (show (#[.int .i64 W, .int .i64 H, .slice al n cl] : Array Value).all (·.oneCell') = true by simp [Value.oneCell'])
  go_wp2_with (first | (refine Au.wpList_store_row rfl 35 (.tmp 2) (.tmp 19) rfl y5 #[.int .i64 0, .int .i64 0, .slice none 0 0] #[.int .i64 W, .int .i64 H, .slice al n cl] (w.heap.size) 35 hHr.out rfl rfl hHi.out hHz.out hHo.out ?_))
  clear c2_0 c2_1 c2_2
  clear hHr hHi hHz hHo
  have hN := setRow_heap _ (w.heap.size) _ #[.int .i64 W, .int .i64 H, .slice al n cl] _ _ hr5_0
  have hsz := HU5.out.size
  have HUx := below_setRow (g := w.heap.size) HU5.out (by first | omega | (simp at *; omega)) #[.int .i64 W, .int .i64 H, .slice al n cl]
  have hO : ∀ kk, kk ≠ w.heap.size → (y5.setRow (w.heap.size) #[.int .i64 W, .int .i64 H, .slice al n cl]).heap[kk]? = y5.heap[kk]? := fun kk hk => setRow_other _ _ _ _ hk
  obtain ⟨y6, hy6⟩ : ∃ y, y5.setRow (w.heap.size) #[.int .i64 W, .int .i64 H, .slice al n cl] = y := ⟨_, rfl⟩
  rw [hy6] at hN HUx hO ⊢
  clear hy6 hsz
  have HU6 := Lib.hid HUx
  clear HUx
  have hr6_0 := hN
  have hr6_1 := (hO _ (by omega)).trans hr5_1
  have hr6_2 := (hO _ (by omega)).trans hr5_2
  have YY := Lib.hid ((HAT5.out.keep (fun b hb => hO b (by omega))).weak (P' := fun b => w.heap.size ≤ b) (fun b hb => by omega))
  clear hN hO
  clear hr5_0 hr5_1 hr5_2 HU5
  go_wp2
  exact bodyPost_ret (v := .tuple #[.agg #[.int .i64 W, .int .i64 H, .slice al n cl], .int .i64 0]) (results_row2 (t := 35) Try.results20 rfl rfl hr6_0 Try.underlying35 rfl (by kernel_rfl)) rfl ⟨⟨al, cl, rfl, YY.out⟩, HU6.out⟩

set_option maxHeartbeats 8000000 in
set_option maxRecDepth 100000 in
theorem decsheet_no (l : List UInt8) (ba : Option Addr) (bn bc : Nat) (W H : Int) (n : Nat) (M0 : Nat → Int) (t : St) (w : World) (hv : Bs w (.slice ba bn bc) l) (hl : l.length ≤ 140737488355328) (C : ∀ (g B : Nat) (X : World), RP (.pointer (some ⟨g, 0, none⟩)) g B (l, 0) X → g < X.heap.size → B ≤ X.heap.size → Calls Try.prog 41 #[.agg #[.pointer (some ⟨g, 0, none⟩)]] X fun e' w' => (∃ a c, e' = .returned (.agg #[.int .i64 W, .int .i64 H, .slice a n c]) ∧ RwP (fun b => X.heap.size ≤ b) 3 w' a n M0) ∧ RP (.pointer (some ⟨g, 0, none⟩)) g B t w' ∧ Aft g X.heap.size X w') (er : Int) (hE : er = (endS t).2) (h0 : ¬ er = 0) : Calls Try.prog 20 #[.slice ba bn bc] w fun e' w' => e' = .returned (.tuple #[.agg #[.int .i64 0, .int .i64 0, .slice none 0 0], .int .i64 er]) ∧ Below w.heap.size w w' := by
  have HV := Lib.hid hv
  clear hv
  have HC := Lib.hid C
  have HE := Lib.hid hE
  clear C hE
  go_enter Try.func20, Try.ntmps20
  go_upto_region 1 with fail
  have hR := Au.rows1 w (.cells #[.int .i64 0, .int .i64 0, .slice none 0 0] 35)
  have HUx := Ve.below_n1 w (.cells #[.int .i64 0, .int .i64 0, .slice none 0 0] 35)
  obtain ⟨y0, hy0⟩ : ∃ y0, w.alloc (.cells #[.int .i64 0, .int .i64 0, .slice none 0 0] 35) = y0 := ⟨_, rfl⟩
  rw [hy0] at hR HUx ⊢
  clear hy0
  have HU0 := Lib.hid HUx
  clear HUx
  have hr0_0 := hR
  clear hR
  have hlz := lt_heap hr0_0
  have hz0 := HU0.out.size
  go_wp2_with fail
  refine (read_any l _ _ (HV.out.on HU0.out) hl).mono ?_
  rintro e y1 ⟨⟨gr, rfl, HRR⟩, hb1⟩
  have hr1_0 := (hb1.block _ (lt_heap hr0_0)).trans hr0_0
  have HU1 := Lib.hid (HU0.out.trans (hb1.mono HU0.out.size))
  clear hr0_0 HU0
  have hrr := HRR.out
  have hRP := Lib.hid (show RP (.pointer (some ⟨gr, 0, none⟩)) gr y1.heap.size (l, 0) y1 from .inr ⟨rfl, hrr.rat⟩)
  have hgr1 := hrr.1
  have hgr2 := hrr.2.1
  clear hrr HRR
  have hz1 := hb1.size
  go_upto_region 2 with fail
  have hb2 := Ve.below_n1 y1 (.cells #[.pointer (some ⟨gr, 0, none⟩)] 92)
  have hN := heap_alloc_last y1 (.cells #[.pointer (some ⟨gr, 0, none⟩)] 92)
  obtain ⟨y2, hy2⟩ : ∃ y, y1.alloc (.cells #[.pointer (some ⟨gr, 0, none⟩)] 92) = y := ⟨_, rfl⟩
  have hs2 : y2.heap.size = y1.heap.size + 1 := by rw [← hy2]; simp
  rw [hy2] at hb2 hN ⊢
  clear hy2
  have hl2_0 := lt_heap hr1_0
  have hr2_0 := (hb2.block _ (lt_heap hr1_0)).trans hr1_0
  have HU2 := Lib.hid (HU1.out.trans (hb2.mono HU1.out.size))
  clear hr1_0 HU1
  have hr2_1 := hN
  clear hN
  have HPr := Lib.hid (hRP.out.new hb2)
  clear hRP
  have hz2 := hb2.size
  clear hs2
  have c1_0 := cell_of_row _ _ 0 _ _ _ hr2_1
  simp at c1_0
  go_wp2_with fail
  refine (HC.out gr y1.heap.size _ HPr.out (by omega) (by omega)).mono ?_
  rintro e y3 ⟨⟨al, cl, rfl, hla⟩, hp, ha⟩
  clear c1_0
  have hr3_0 := (ha.block _ (lt_heap hr2_0) (lt_heap hr2_0) (by have := lt_heap hr2_0; omega)).trans hr2_0
  have hr3_1 := (ha.block _ (lt_heap hr2_1) (lt_heap hr2_1) (by have := lt_heap hr2_1; omega)).trans hr2_1
  have HU3 := Lib.hid (HU2.out.trans (ha.below (by omega) (by omega) (by omega)))
  have HPs := Lib.hid hp
  have hz3 := ha.size
  clear hp ha HPr hr2_0 hr2_1 HU2
  have HAT3 := Lib.hid (show RwP (fun b => y2.heap.size ≤ b ∧ b < y3.heap.size) 3 y3 al n M0 from (hla.lt (by decide)).weak (fun b hb => by omega))
  clear hla
  go_upto_region 3 with fail
  have hb4 := Ve.below_n1 y3 (.cells #[.int .i64 W, .int .i64 H, .slice al n cl] 35)
  have hN := heap_alloc_last y3 (.cells #[.int .i64 W, .int .i64 H, .slice al n cl] 35)
  obtain ⟨y4, hy4⟩ : ∃ y, y3.alloc (.cells #[.int .i64 W, .int .i64 H, .slice al n cl] 35) = y := ⟨_, rfl⟩
  have hs4 : y4.heap.size = y3.heap.size + 1 := by rw [← hy4]; simp
  rw [hy4] at hb4 hN ⊢
  clear hy4
  have hl4_0 := lt_heap hr3_0
  have hl4_1 := lt_heap hr3_1
  have hr4_0 := (hb4.block _ (lt_heap hr3_0)).trans hr3_0
  have hr4_1 := (hb4.block _ (lt_heap hr3_1)).trans hr3_1
  have HU4 := Lib.hid (HU3.out.trans (hb4.mono HU3.out.size))
  clear hr3_0 hr3_1 HU3
  have hr4_2 := hN
  clear hN
  have HPt := Lib.hid (HPs.out.new hb4)
  clear HPs
  have hz4 := hb4.size
  clear hs4
  have HAT4 := Lib.hid (HAT3.out.keep (fun b hb => hb4.block b hb.2))
  clear HAT3
  have c1_0 := cell_of_row _ _ 0 _ _ _ hr4_1
  simp at c1_0
  go_wp2_with fail
  refine (end_any _ gr _ _ HPt.out).mono ?_
  rintro e y5 ⟨rfl, hp, ha⟩
  clear c1_0
  have hr5_0 := (ha.block _ (lt_heap hr4_0) (lt_heap hr4_0) (by omega)).trans hr4_0
  have hr5_1 := (ha.block _ (lt_heap hr4_1) (lt_heap hr4_1) (by omega)).trans hr4_1
  have hr5_2 := (ha.block _ (lt_heap hr4_2) (lt_heap hr4_2) (by omega)).trans hr4_2
  have HAT5 := Lib.hid (HAT4.out.keep (fun b hb => ha.block b (by omega) (by omega) (by omega)))
  clear HAT4
  have HU5 := Lib.hid (HU4.out.trans (ha.below (by omega) (by omega) (by omega)))
  have hz5 := ha.size
  clear hp ha HPt hr4_0 hr4_1 hr4_2 HU4
  rw [← HE.out]
  have d1 : (er != 0) = true := by simpa using h0
  have d2 : (er == 0) = false := by simpa using h0
  clear h0
  go_upto_region 5 with fail
  have hHr := Lib.hid hr5_0
  have hHi := Lib.hid (show (Try.prog.info? 35).map (·.size) = some (#[.int .i64 0, .int .i64 0, .slice none 0 0] : Array Value).size by kernel_rfl)
  have hHz := Lib.hid (show (#[.int .i64 0, .int .i64 0, .slice none 0 0] : Array Value).size = (#[.int .i64 0, .int .i64 0, .slice none 0 0] : Array Value).size from rfl)
  have hHo := Lib.hid (show (#[.int .i64 0, .int .i64 0, .slice none 0 0] : Array Value).all (·.oneCell') = true by simp [Value.oneCell'])
  go_wp2_with (first | (refine Au.wpList_store_row rfl 35 (.tmp 2) (.tmp 17) rfl y5 #[.int .i64 0, .int .i64 0, .slice none 0 0] #[.int .i64 0, .int .i64 0, .slice none 0 0] (w.heap.size) 35 hHr.out rfl rfl hHi.out hHz.out hHo.out ?_))
  clear hHr hHi hHz hHo
  have hN := setRow_heap _ (w.heap.size) _ #[.int .i64 0, .int .i64 0, .slice none 0 0] _ _ hr5_0
  have hsz := HU5.out.size
  have HUx := below_setRow (g := w.heap.size) HU5.out (by first | omega | (simp at *; omega)) #[.int .i64 0, .int .i64 0, .slice none 0 0]
  have hO : ∀ kk, kk ≠ w.heap.size → (y5.setRow (w.heap.size) #[.int .i64 0, .int .i64 0, .slice none 0 0]).heap[kk]? = y5.heap[kk]? := fun kk hk => setRow_other _ _ _ _ hk
  obtain ⟨y6, hy6⟩ : ∃ y, y5.setRow (w.heap.size) #[.int .i64 0, .int .i64 0, .slice none 0 0] = y := ⟨_, rfl⟩
  rw [hy6] at hN HUx hO ⊢
  clear hy6 hsz
  have HU6 := Lib.hid HUx
  clear HUx
  have hr6_0 := hN
  have hr6_1 := (hO _ (by omega)).trans hr5_1
  have hr6_2 := (hO _ (by omega)).trans hr5_2
  clear hN hO
  clear hr5_0 hr5_1 hr5_2 HU5
  go_wp2
  exact bodyPost_ret (v := .tuple #[.agg #[.int .i64 0, .int .i64 0, .slice none 0 0], .int .i64 er]) (results_row2 (t := 35) Try.results20 rfl rfl hr6_0 Try.underlying35 rfl (by kernel_rfl)) rfl ⟨rfl, HU6.out⟩

set_option maxHeartbeats 8000000 in
set_option maxRecDepth 100000 in
theorem decfilm_ok (l : List UInt8) (ba : Option Addr) (bn bc : Nat) (W H : Int) (n : Nat) (L D N Q S F : Nat → Int) (t : St) (w : World) (hv : Bs w (.slice ba bn bc) l) (hl : l.length ≤ 140737488355328) (C : ∀ (g B : Nat) (X : World), RP (.pointer (some ⟨g, 0, none⟩)) g B (l, 0) X → g < X.heap.size → B ≤ X.heap.size → Calls Try.prog 45 #[.agg #[.pointer (some ⟨g, 0, none⟩)]] X fun e' w' => (∃ p : Pl, e' = .returned (.agg (FC (⟨W, H, n, n, n, n, n, n, L, D, N, Q, S, F⟩ : Flm) p)) ∧ FAtP (fun b => X.heap.size ≤ b) w' (⟨W, H, n, n, n, n, n, n, L, D, N, Q, S, F⟩ : Flm) p) ∧ RP (.pointer (some ⟨g, 0, none⟩)) g B t w' ∧ Aft g X.heap.size X w') (er : Int) (hE : er = (endS t).2) (h0 : er = 0) (hok : okF (⟨W, H, n, n, n, n, n, n, L, D, N, Q, S, F⟩ : Flm)) : Calls Try.prog 22 #[.slice ba bn bc] w fun e' w' => (∃ p : Pl, e' = .returned (.tuple #[.agg (FC (⟨W, H, n, n, n, n, n, n, L, D, N, Q, S, F⟩ : Flm) p), .int .i64 0]) ∧ FAtP (fun b => w.heap.size ≤ b) w' (⟨W, H, n, n, n, n, n, n, L, D, N, Q, S, F⟩ : Flm) p) ∧ Below w.heap.size w w' := by
  have HV := Lib.hid hv
  clear hv
  have HC := Lib.hid C
  have HE := Lib.hid hE
  clear C hE
  go_enter Try.func22, Try.ntmps22
  go_upto_region 1 with fail
  have hR := Au.rows1 w (.cells #[.int .i64 0, .int .i64 0, .slice none 0 0, .slice none 0 0, .slice none 0 0, .slice none 0 0, .slice none 0 0, .slice none 0 0] 39)
  have HUx := Ve.below_n1 w (.cells #[.int .i64 0, .int .i64 0, .slice none 0 0, .slice none 0 0, .slice none 0 0, .slice none 0 0, .slice none 0 0, .slice none 0 0] 39)
  obtain ⟨y0, hy0⟩ : ∃ y0, w.alloc (.cells #[.int .i64 0, .int .i64 0, .slice none 0 0, .slice none 0 0, .slice none 0 0, .slice none 0 0, .slice none 0 0, .slice none 0 0] 39) = y0 := ⟨_, rfl⟩
  rw [hy0] at hR HUx ⊢
  clear hy0
  have HU0 := Lib.hid HUx
  clear HUx
  have hr0_0 := hR
  clear hR
  have hlz := lt_heap hr0_0
  have hz0 := HU0.out.size
  go_wp2_with fail
  refine (read_any l _ _ (HV.out.on HU0.out) hl).mono ?_
  rintro e y1 ⟨⟨gr, rfl, HRR⟩, hb1⟩
  have hr1_0 := (hb1.block _ (lt_heap hr0_0)).trans hr0_0
  have HU1 := Lib.hid (HU0.out.trans (hb1.mono HU0.out.size))
  clear hr0_0 HU0
  have hrr := HRR.out
  have hRP := Lib.hid (show RP (.pointer (some ⟨gr, 0, none⟩)) gr y1.heap.size (l, 0) y1 from .inr ⟨rfl, hrr.rat⟩)
  have hgr1 := hrr.1
  have hgr2 := hrr.2.1
  clear hrr HRR
  have hz1 := hb1.size
  go_upto_region 2 with fail
  have hb2 := Ve.below_n1 y1 (.cells #[.pointer (some ⟨gr, 0, none⟩)] 92)
  have hN := heap_alloc_last y1 (.cells #[.pointer (some ⟨gr, 0, none⟩)] 92)
  obtain ⟨y2, hy2⟩ : ∃ y, y1.alloc (.cells #[.pointer (some ⟨gr, 0, none⟩)] 92) = y := ⟨_, rfl⟩
  have hs2 : y2.heap.size = y1.heap.size + 1 := by rw [← hy2]; simp
  rw [hy2] at hb2 hN ⊢
  clear hy2
  have hl2_0 := lt_heap hr1_0
  have hr2_0 := (hb2.block _ (lt_heap hr1_0)).trans hr1_0
  have HU2 := Lib.hid (HU1.out.trans (hb2.mono HU1.out.size))
  clear hr1_0 HU1
  have hr2_1 := hN
  clear hN
  have HPr := Lib.hid (hRP.out.new hb2)
  clear hRP
  have hz2 := hb2.size
  clear hs2
  have c1_0 := cell_of_row _ _ 0 _ _ _ hr2_1
  simp at c1_0
  go_wp2_with fail
  refine (HC.out gr y1.heap.size _ HPr.out (by omega) (by omega)).mono ?_
  rintro e y3 ⟨⟨⟨al, cl, ad, cd, an, cn, ab, cb, ax, cx, af, cf⟩, rfl, hla⟩, hp, ha⟩
  clear c1_0
  have hr3_0 := (ha.block _ (lt_heap hr2_0) (lt_heap hr2_0) (by have := lt_heap hr2_0; omega)).trans hr2_0
  have hr3_1 := (ha.block _ (lt_heap hr2_1) (lt_heap hr2_1) (by have := lt_heap hr2_1; omega)).trans hr2_1
  have HU3 := Lib.hid (HU2.out.trans (ha.below (by omega) (by omega) (by omega)))
  have HPs := Lib.hid hp
  have hz3 := ha.size
  clear hp ha HPr hr2_0 hr2_1 HU2
  have HAT3 := Lib.hid (show FAtP (fun b => y2.heap.size ≤ b ∧ b < y3.heap.size) y3 (⟨W, H, n, n, n, n, n, n, L, D, N, Q, S, F⟩ : Flm) (⟨al, cl, ad, cd, an, cn, ab, cb, ax, cx, af, cf⟩ : Pl) from hla.lt.weak (fun b hb => by omega))
  clear hla
  go_upto_region 3 with fail
  have hb4 := Ve.below_n1 y3 (.cells #[.int .i64 W, .int .i64 H, .slice al n cl, .slice ad n cd, .slice an n cn, .slice ab n cb, .slice ax n cx, .slice af n cf] 39)
  have hN := heap_alloc_last y3 (.cells #[.int .i64 W, .int .i64 H, .slice al n cl, .slice ad n cd, .slice an n cn, .slice ab n cb, .slice ax n cx, .slice af n cf] 39)
  obtain ⟨y4, hy4⟩ : ∃ y, y3.alloc (.cells #[.int .i64 W, .int .i64 H, .slice al n cl, .slice ad n cd, .slice an n cn, .slice ab n cb, .slice ax n cx, .slice af n cf] 39) = y := ⟨_, rfl⟩
  have hs4 : y4.heap.size = y3.heap.size + 1 := by rw [← hy4]; simp
  rw [hy4] at hb4 hN ⊢
  clear hy4
  have hl4_0 := lt_heap hr3_0
  have hl4_1 := lt_heap hr3_1
  have hr4_0 := (hb4.block _ (lt_heap hr3_0)).trans hr3_0
  have hr4_1 := (hb4.block _ (lt_heap hr3_1)).trans hr3_1
  have HU4 := Lib.hid (HU3.out.trans (hb4.mono HU3.out.size))
  clear hr3_0 hr3_1 HU3
  have hr4_2 := hN
  clear hN
  have HPt := Lib.hid (HPs.out.new hb4)
  clear HPs
  have hz4 := hb4.size
  clear hs4
  have HAT4 := Lib.hid (HAT3.out.keep (fun b hb => hb4.block b hb.2))
  clear HAT3
  have c1_0 := cell_of_row _ _ 0 _ _ _ hr4_1
  simp at c1_0
  go_wp2_with fail
  refine (end_any _ gr _ _ HPt.out).mono ?_
  rintro e y5 ⟨rfl, hp, ha⟩
  clear c1_0
  have hr5_0 := (ha.block _ (lt_heap hr4_0) (lt_heap hr4_0) (by omega)).trans hr4_0
  have hr5_1 := (ha.block _ (lt_heap hr4_1) (lt_heap hr4_1) (by omega)).trans hr4_1
  have hr5_2 := (ha.block _ (lt_heap hr4_2) (lt_heap hr4_2) (by omega)).trans hr4_2
  have HAT5 := Lib.hid (HAT4.out.keep (fun b hb => ha.block b (by omega) (by omega) (by omega)))
  clear HAT4
  have HU5 := Lib.hid (HU4.out.trans (ha.below (by omega) (by omega) (by omega)))
  have hz5 := ha.size
  clear hp ha HPt hr4_0 hr4_1 hr4_2 HU4
  rw [← HE.out]
  subst h0
  have HOK := Lib.hid hok
  clear hok
  have c2_0 := cell_of_row _ _ 0 _ _ _ hr5_2
  have c2_1 := cell_of_row _ _ 1 _ _ _ hr5_2
  have c2_2 := cell_of_row _ _ 2 _ _ _ hr5_2
  have c2_3 := cell_of_row _ _ 3 _ _ _ hr5_2
  have c2_4 := cell_of_row _ _ 4 _ _ _ hr5_2
  have c2_5 := cell_of_row _ _ 5 _ _ _ hr5_2
  have c2_6 := cell_of_row _ _ 6 _ _ _ hr5_2
  have c2_7 := cell_of_row _ _ 7 _ _ _ hr5_2
  simp at c2_0 c2_1 c2_2 c2_3 c2_4 c2_5 c2_6 c2_7
  go_wp2_with fail
  refine (fright_any (⟨W, H, n, n, n, n, n, n, L, D, N, Q, S, F⟩ : Flm) (⟨al, cl, ad, cd, an, cn, ab, cb, ax, cx, af, cf⟩ : Pl) _ HAT5.out.fat).mono ?_
  rintro e y6 ⟨rfl, hb6⟩
  rw [decide_eq_true HOK.out]
  clear c2_0 c2_1 c2_2 c2_3 c2_4 c2_5 c2_6 c2_7
  have hr6_0 := (hb6.block _ (lt_heap hr5_0)).trans hr5_0
  have hr6_1 := (hb6.block _ (lt_heap hr5_1)).trans hr5_1
  have hr6_2 := (hb6.block _ (lt_heap hr5_2)).trans hr5_2
  have HU6 := Lib.hid (HU5.out.trans (hb6.mono HU5.out.size))
  clear hr5_0 hr5_1 hr5_2 HU5
  have HAT6 := Lib.hid (HAT5.out.keep (fun b hb => hb6.block b (by omega)))
  clear HAT5
  have c2_0 := cell_of_row _ _ 0 _ _ _ hr6_2
  have c2_1 := cell_of_row _ _ 1 _ _ _ hr6_2
  have c2_2 := cell_of_row _ _ 2 _ _ _ hr6_2
  have c2_3 := cell_of_row _ _ 3 _ _ _ hr6_2
  have c2_4 := cell_of_row _ _ 4 _ _ _ hr6_2
  have c2_5 := cell_of_row _ _ 5 _ _ _ hr6_2
  have c2_6 := cell_of_row _ _ 6 _ _ _ hr6_2
  have c2_7 := cell_of_row _ _ 7 _ _ _ hr6_2
  simp at c2_0 c2_1 c2_2 c2_3 c2_4 c2_5 c2_6 c2_7
  go_upto_region 8 with fail
  have hHr := Lib.hid hr6_0
  have hHi := Lib.hid (show (Try.prog.info? 39).map (·.size) = some (#[.int .i64 W, .int .i64 H, .slice al n cl, .slice ad n cd, .slice an n cn, .slice ab n cb, .slice ax n cx, .slice af n cf] : Array Value).size by kernel_rfl)
  have hHz := Lib.hid (show (#[.int .i64 0, .int .i64 0, .slice none 0 0, .slice none 0 0, .slice none 0 0, .slice none 0 0, .slice none 0 0, .slice none 0 0] : Array Value).size = (#[.int .i64 W, .int .i64 H, .slice al n cl, .slice ad n cd, .slice an n cn, .slice ab n cb, .slice ax n cx, .slice af n cf] : Array Value).size from rfl)
  have hHo := Lib.hid (show (#[.int .i64 W, .int .i64 H, .slice al n cl, .slice ad n cd, .slice an n cn, .slice ab n cb, .slice ax n cx, .slice af n cf] : Array Value).all (·.oneCell') = true by simp [Value.oneCell'])
  go_wp2_with (first | (refine Au.wpList_store_row rfl 39 (.tmp 2) (.tmp 23) rfl y6 #[.int .i64 0, .int .i64 0, .slice none 0 0, .slice none 0 0, .slice none 0 0, .slice none 0 0, .slice none 0 0, .slice none 0 0] #[.int .i64 W, .int .i64 H, .slice al n cl, .slice ad n cd, .slice an n cn, .slice ab n cb, .slice ax n cx, .slice af n cf] (w.heap.size) 39 hHr.out rfl rfl hHi.out hHz.out hHo.out ?_))
  clear c2_0 c2_1 c2_2 c2_3 c2_4 c2_5 c2_6 c2_7
  clear hHr hHi hHz hHo
  have hN := setRow_heap _ (w.heap.size) _ #[.int .i64 W, .int .i64 H, .slice al n cl, .slice ad n cd, .slice an n cn, .slice ab n cb, .slice ax n cx, .slice af n cf] _ _ hr6_0
  have hsz := HU6.out.size
  have HUx := below_setRow (g := w.heap.size) HU6.out (by first | omega | (simp at *; omega)) #[.int .i64 W, .int .i64 H, .slice al n cl, .slice ad n cd, .slice an n cn, .slice ab n cb, .slice ax n cx, .slice af n cf]
  have hO : ∀ kk, kk ≠ w.heap.size → (y6.setRow (w.heap.size) #[.int .i64 W, .int .i64 H, .slice al n cl, .slice ad n cd, .slice an n cn, .slice ab n cb, .slice ax n cx, .slice af n cf]).heap[kk]? = y6.heap[kk]? := fun kk hk => setRow_other _ _ _ _ hk
  obtain ⟨y7, hy7⟩ : ∃ y, y6.setRow (w.heap.size) #[.int .i64 W, .int .i64 H, .slice al n cl, .slice ad n cd, .slice an n cn, .slice ab n cb, .slice ax n cx, .slice af n cf] = y := ⟨_, rfl⟩
  rw [hy7] at hN HUx hO ⊢
  clear hy7 hsz
  have HU7 := Lib.hid HUx
  clear HUx
  have hr7_0 := hN
  have hr7_1 := (hO _ (by omega)).trans hr6_1
  have hr7_2 := (hO _ (by omega)).trans hr6_2
  have YY := Lib.hid ((HAT6.out.keep (fun b hb => hO b (by omega))).weak (P' := fun b => w.heap.size ≤ b) (fun b hb => by omega))
  clear hN hO
  clear hr6_0 hr6_1 hr6_2 HU6
  go_wp2
  exact bodyPost_ret (v := .tuple #[.agg #[.int .i64 W, .int .i64 H, .slice al n cl, .slice ad n cd, .slice an n cn, .slice ab n cb, .slice ax n cx, .slice af n cf], .int .i64 0]) (results_row2 (t := 39) Try.results22 rfl rfl hr7_0 Try.underlying39 rfl (by kernel_rfl)) rfl ⟨⟨(⟨al, cl, ad, cd, an, cn, ab, cb, ax, cx, af, cf⟩ : Pl), rfl, YY.out⟩, HU7.out⟩

set_option maxHeartbeats 8000000 in
set_option maxRecDepth 100000 in
theorem decfilm_form (l : List UInt8) (ba : Option Addr) (bn bc : Nat) (W H : Int) (n : Nat) (L D N Q S F : Nat → Int) (t : St) (w : World) (hv : Bs w (.slice ba bn bc) l) (hl : l.length ≤ 140737488355328) (C : ∀ (g B : Nat) (X : World), RP (.pointer (some ⟨g, 0, none⟩)) g B (l, 0) X → g < X.heap.size → B ≤ X.heap.size → Calls Try.prog 45 #[.agg #[.pointer (some ⟨g, 0, none⟩)]] X fun e' w' => (∃ p : Pl, e' = .returned (.agg (FC (⟨W, H, n, n, n, n, n, n, L, D, N, Q, S, F⟩ : Flm) p)) ∧ FAtP (fun b => X.heap.size ≤ b) w' (⟨W, H, n, n, n, n, n, n, L, D, N, Q, S, F⟩ : Flm) p) ∧ RP (.pointer (some ⟨g, 0, none⟩)) g B t w' ∧ Aft g X.heap.size X w') (er : Int) (hE : er = (endS t).2) (h0 : er = 0) (hok : ¬ okF (⟨W, H, n, n, n, n, n, n, L, D, N, Q, S, F⟩ : Flm)) : Calls Try.prog 22 #[.slice ba bn bc] w fun e' w' => e' = .returned (.tuple #[.agg #[.int .i64 0, .int .i64 0, .slice none 0 0, .slice none 0 0, .slice none 0 0, .slice none 0 0, .slice none 0 0, .slice none 0 0], .int .i64 10]) ∧ Below w.heap.size w w' := by
  have HV := Lib.hid hv
  clear hv
  have HC := Lib.hid C
  have HE := Lib.hid hE
  clear C hE
  go_enter Try.func22, Try.ntmps22
  go_upto_region 1 with fail
  have hR := Au.rows1 w (.cells #[.int .i64 0, .int .i64 0, .slice none 0 0, .slice none 0 0, .slice none 0 0, .slice none 0 0, .slice none 0 0, .slice none 0 0] 39)
  have HUx := Ve.below_n1 w (.cells #[.int .i64 0, .int .i64 0, .slice none 0 0, .slice none 0 0, .slice none 0 0, .slice none 0 0, .slice none 0 0, .slice none 0 0] 39)
  obtain ⟨y0, hy0⟩ : ∃ y0, w.alloc (.cells #[.int .i64 0, .int .i64 0, .slice none 0 0, .slice none 0 0, .slice none 0 0, .slice none 0 0, .slice none 0 0, .slice none 0 0] 39) = y0 := ⟨_, rfl⟩
  rw [hy0] at hR HUx ⊢
  clear hy0
  have HU0 := Lib.hid HUx
  clear HUx
  have hr0_0 := hR
  clear hR
  have hlz := lt_heap hr0_0
  have hz0 := HU0.out.size
  go_wp2_with fail
  refine (read_any l _ _ (HV.out.on HU0.out) hl).mono ?_
  rintro e y1 ⟨⟨gr, rfl, HRR⟩, hb1⟩
  have hr1_0 := (hb1.block _ (lt_heap hr0_0)).trans hr0_0
  have HU1 := Lib.hid (HU0.out.trans (hb1.mono HU0.out.size))
  clear hr0_0 HU0
  have hrr := HRR.out
  have hRP := Lib.hid (show RP (.pointer (some ⟨gr, 0, none⟩)) gr y1.heap.size (l, 0) y1 from .inr ⟨rfl, hrr.rat⟩)
  have hgr1 := hrr.1
  have hgr2 := hrr.2.1
  clear hrr HRR
  have hz1 := hb1.size
  go_upto_region 2 with fail
  have hb2 := Ve.below_n1 y1 (.cells #[.pointer (some ⟨gr, 0, none⟩)] 92)
  have hN := heap_alloc_last y1 (.cells #[.pointer (some ⟨gr, 0, none⟩)] 92)
  obtain ⟨y2, hy2⟩ : ∃ y, y1.alloc (.cells #[.pointer (some ⟨gr, 0, none⟩)] 92) = y := ⟨_, rfl⟩
  have hs2 : y2.heap.size = y1.heap.size + 1 := by rw [← hy2]; simp
  rw [hy2] at hb2 hN ⊢
  clear hy2
  have hl2_0 := lt_heap hr1_0
  have hr2_0 := (hb2.block _ (lt_heap hr1_0)).trans hr1_0
  have HU2 := Lib.hid (HU1.out.trans (hb2.mono HU1.out.size))
  clear hr1_0 HU1
  have hr2_1 := hN
  clear hN
  have HPr := Lib.hid (hRP.out.new hb2)
  clear hRP
  have hz2 := hb2.size
  clear hs2
  have c1_0 := cell_of_row _ _ 0 _ _ _ hr2_1
  simp at c1_0
  go_wp2_with fail
  refine (HC.out gr y1.heap.size _ HPr.out (by omega) (by omega)).mono ?_
  rintro e y3 ⟨⟨⟨al, cl, ad, cd, an, cn, ab, cb, ax, cx, af, cf⟩, rfl, hla⟩, hp, ha⟩
  clear c1_0
  have hr3_0 := (ha.block _ (lt_heap hr2_0) (lt_heap hr2_0) (by have := lt_heap hr2_0; omega)).trans hr2_0
  have hr3_1 := (ha.block _ (lt_heap hr2_1) (lt_heap hr2_1) (by have := lt_heap hr2_1; omega)).trans hr2_1
  have HU3 := Lib.hid (HU2.out.trans (ha.below (by omega) (by omega) (by omega)))
  have HPs := Lib.hid hp
  have hz3 := ha.size
  clear hp ha HPr hr2_0 hr2_1 HU2
  have HAT3 := Lib.hid (show FAtP (fun b => y2.heap.size ≤ b ∧ b < y3.heap.size) y3 (⟨W, H, n, n, n, n, n, n, L, D, N, Q, S, F⟩ : Flm) (⟨al, cl, ad, cd, an, cn, ab, cb, ax, cx, af, cf⟩ : Pl) from hla.lt.weak (fun b hb => by omega))
  clear hla
  go_upto_region 3 with fail
  have hb4 := Ve.below_n1 y3 (.cells #[.int .i64 W, .int .i64 H, .slice al n cl, .slice ad n cd, .slice an n cn, .slice ab n cb, .slice ax n cx, .slice af n cf] 39)
  have hN := heap_alloc_last y3 (.cells #[.int .i64 W, .int .i64 H, .slice al n cl, .slice ad n cd, .slice an n cn, .slice ab n cb, .slice ax n cx, .slice af n cf] 39)
  obtain ⟨y4, hy4⟩ : ∃ y, y3.alloc (.cells #[.int .i64 W, .int .i64 H, .slice al n cl, .slice ad n cd, .slice an n cn, .slice ab n cb, .slice ax n cx, .slice af n cf] 39) = y := ⟨_, rfl⟩
  have hs4 : y4.heap.size = y3.heap.size + 1 := by rw [← hy4]; simp
  rw [hy4] at hb4 hN ⊢
  clear hy4
  have hl4_0 := lt_heap hr3_0
  have hl4_1 := lt_heap hr3_1
  have hr4_0 := (hb4.block _ (lt_heap hr3_0)).trans hr3_0
  have hr4_1 := (hb4.block _ (lt_heap hr3_1)).trans hr3_1
  have HU4 := Lib.hid (HU3.out.trans (hb4.mono HU3.out.size))
  clear hr3_0 hr3_1 HU3
  have hr4_2 := hN
  clear hN
  have HPt := Lib.hid (HPs.out.new hb4)
  clear HPs
  have hz4 := hb4.size
  clear hs4
  have HAT4 := Lib.hid (HAT3.out.keep (fun b hb => hb4.block b hb.2))
  clear HAT3
  have c1_0 := cell_of_row _ _ 0 _ _ _ hr4_1
  simp at c1_0
  go_wp2_with fail
  refine (end_any _ gr _ _ HPt.out).mono ?_
  rintro e y5 ⟨rfl, hp, ha⟩
  clear c1_0
  have hr5_0 := (ha.block _ (lt_heap hr4_0) (lt_heap hr4_0) (by omega)).trans hr4_0
  have hr5_1 := (ha.block _ (lt_heap hr4_1) (lt_heap hr4_1) (by omega)).trans hr4_1
  have hr5_2 := (ha.block _ (lt_heap hr4_2) (lt_heap hr4_2) (by omega)).trans hr4_2
  have HAT5 := Lib.hid (HAT4.out.keep (fun b hb => ha.block b (by omega) (by omega) (by omega)))
  clear HAT4
  have HU5 := Lib.hid (HU4.out.trans (ha.below (by omega) (by omega) (by omega)))
  have hz5 := ha.size
  clear hp ha HPt hr4_0 hr4_1 hr4_2 HU4
  rw [← HE.out]
  subst h0
  have HOK := Lib.hid hok
  clear hok
  have c2_0 := cell_of_row _ _ 0 _ _ _ hr5_2
  have c2_1 := cell_of_row _ _ 1 _ _ _ hr5_2
  have c2_2 := cell_of_row _ _ 2 _ _ _ hr5_2
  have c2_3 := cell_of_row _ _ 3 _ _ _ hr5_2
  have c2_4 := cell_of_row _ _ 4 _ _ _ hr5_2
  have c2_5 := cell_of_row _ _ 5 _ _ _ hr5_2
  have c2_6 := cell_of_row _ _ 6 _ _ _ hr5_2
  have c2_7 := cell_of_row _ _ 7 _ _ _ hr5_2
  simp at c2_0 c2_1 c2_2 c2_3 c2_4 c2_5 c2_6 c2_7
  go_wp2_with fail
  refine (fright_any (⟨W, H, n, n, n, n, n, n, L, D, N, Q, S, F⟩ : Flm) (⟨al, cl, ad, cd, an, cn, ab, cb, ax, cx, af, cf⟩ : Pl) _ HAT5.out.fat).mono ?_
  rintro e y6 ⟨rfl, hb6⟩
  rw [decide_eq_false HOK.out]
  clear c2_0 c2_1 c2_2 c2_3 c2_4 c2_5 c2_6 c2_7
  have hr6_0 := (hb6.block _ (lt_heap hr5_0)).trans hr5_0
  have hr6_1 := (hb6.block _ (lt_heap hr5_1)).trans hr5_1
  have hr6_2 := (hb6.block _ (lt_heap hr5_2)).trans hr5_2
  have HU6 := Lib.hid (HU5.out.trans (hb6.mono HU5.out.size))
  clear hr5_0 hr5_1 hr5_2 HU5
  have HAT6 := Lib.hid (HAT5.out.keep (fun b hb => hb6.block b (by omega)))
  clear HAT5
  go_upto_region 7 with fail
  have hHr := Lib.hid hr6_0
  have hHi := Lib.hid (show (Try.prog.info? 39).map (·.size) = some (#[.int .i64 0, .int .i64 0, .slice none 0 0, .slice none 0 0, .slice none 0 0, .slice none 0 0, .slice none 0 0, .slice none 0 0] : Array Value).size by kernel_rfl)
  have hHz := Lib.hid (show (#[.int .i64 0, .int .i64 0, .slice none 0 0, .slice none 0 0, .slice none 0 0, .slice none 0 0, .slice none 0 0, .slice none 0 0] : Array Value).size = (#[.int .i64 0, .int .i64 0, .slice none 0 0, .slice none 0 0, .slice none 0 0, .slice none 0 0, .slice none 0 0, .slice none 0 0] : Array Value).size from rfl)
  have hHo := Lib.hid (show (#[.int .i64 0, .int .i64 0, .slice none 0 0, .slice none 0 0, .slice none 0 0, .slice none 0 0, .slice none 0 0, .slice none 0 0] : Array Value).all (·.oneCell') = true by simp [Value.oneCell'])
  go_wp2_with (first | (refine Au.wpList_store_row rfl 39 (.tmp 2) (.tmp 22) rfl y6 #[.int .i64 0, .int .i64 0, .slice none 0 0, .slice none 0 0, .slice none 0 0, .slice none 0 0, .slice none 0 0, .slice none 0 0] #[.int .i64 0, .int .i64 0, .slice none 0 0, .slice none 0 0, .slice none 0 0, .slice none 0 0, .slice none 0 0, .slice none 0 0] (w.heap.size) 39 hHr.out rfl rfl hHi.out hHz.out hHo.out ?_))
  clear hHr hHi hHz hHo
  have hN := setRow_heap _ (w.heap.size) _ #[.int .i64 0, .int .i64 0, .slice none 0 0, .slice none 0 0, .slice none 0 0, .slice none 0 0, .slice none 0 0, .slice none 0 0] _ _ hr6_0
  have hsz := HU6.out.size
  have HUx := below_setRow (g := w.heap.size) HU6.out (by first | omega | (simp at *; omega)) #[.int .i64 0, .int .i64 0, .slice none 0 0, .slice none 0 0, .slice none 0 0, .slice none 0 0, .slice none 0 0, .slice none 0 0]
  have hO : ∀ kk, kk ≠ w.heap.size → (y6.setRow (w.heap.size) #[.int .i64 0, .int .i64 0, .slice none 0 0, .slice none 0 0, .slice none 0 0, .slice none 0 0, .slice none 0 0, .slice none 0 0]).heap[kk]? = y6.heap[kk]? := fun kk hk => setRow_other _ _ _ _ hk
  obtain ⟨y7, hy7⟩ : ∃ y, y6.setRow (w.heap.size) #[.int .i64 0, .int .i64 0, .slice none 0 0, .slice none 0 0, .slice none 0 0, .slice none 0 0, .slice none 0 0, .slice none 0 0] = y := ⟨_, rfl⟩
  rw [hy7] at hN HUx hO ⊢
  clear hy7 hsz
  have HU7 := Lib.hid HUx
  clear HUx
  have hr7_0 := hN
  have hr7_1 := (hO _ (by omega)).trans hr6_1
  have hr7_2 := (hO _ (by omega)).trans hr6_2
  clear hN hO
  clear hr6_0 hr6_1 hr6_2 HU6
  go_wp2
  exact bodyPost_ret (v := .tuple #[.agg #[.int .i64 0, .int .i64 0, .slice none 0 0, .slice none 0 0, .slice none 0 0, .slice none 0 0, .slice none 0 0, .slice none 0 0], .int .i64 10]) (results_row2 (t := 39) Try.results22 rfl rfl hr7_0 Try.underlying39 rfl (by kernel_rfl)) rfl ⟨rfl, HU7.out⟩

set_option maxHeartbeats 8000000 in
set_option maxRecDepth 100000 in
theorem decfilm_no (l : List UInt8) (ba : Option Addr) (bn bc : Nat) (W H : Int) (n : Nat) (L D N Q S F : Nat → Int) (t : St) (w : World) (hv : Bs w (.slice ba bn bc) l) (hl : l.length ≤ 140737488355328) (C : ∀ (g B : Nat) (X : World), RP (.pointer (some ⟨g, 0, none⟩)) g B (l, 0) X → g < X.heap.size → B ≤ X.heap.size → Calls Try.prog 45 #[.agg #[.pointer (some ⟨g, 0, none⟩)]] X fun e' w' => (∃ p : Pl, e' = .returned (.agg (FC (⟨W, H, n, n, n, n, n, n, L, D, N, Q, S, F⟩ : Flm) p)) ∧ FAtP (fun b => X.heap.size ≤ b) w' (⟨W, H, n, n, n, n, n, n, L, D, N, Q, S, F⟩ : Flm) p) ∧ RP (.pointer (some ⟨g, 0, none⟩)) g B t w' ∧ Aft g X.heap.size X w') (er : Int) (hE : er = (endS t).2) (h0 : ¬ er = 0) : Calls Try.prog 22 #[.slice ba bn bc] w fun e' w' => e' = .returned (.tuple #[.agg #[.int .i64 0, .int .i64 0, .slice none 0 0, .slice none 0 0, .slice none 0 0, .slice none 0 0, .slice none 0 0, .slice none 0 0], .int .i64 er]) ∧ Below w.heap.size w w' := by
  have HV := Lib.hid hv
  clear hv
  have HC := Lib.hid C
  have HE := Lib.hid hE
  clear C hE
  go_enter Try.func22, Try.ntmps22
  go_upto_region 1 with fail
  have hR := Au.rows1 w (.cells #[.int .i64 0, .int .i64 0, .slice none 0 0, .slice none 0 0, .slice none 0 0, .slice none 0 0, .slice none 0 0, .slice none 0 0] 39)
  have HUx := Ve.below_n1 w (.cells #[.int .i64 0, .int .i64 0, .slice none 0 0, .slice none 0 0, .slice none 0 0, .slice none 0 0, .slice none 0 0, .slice none 0 0] 39)
  obtain ⟨y0, hy0⟩ : ∃ y0, w.alloc (.cells #[.int .i64 0, .int .i64 0, .slice none 0 0, .slice none 0 0, .slice none 0 0, .slice none 0 0, .slice none 0 0, .slice none 0 0] 39) = y0 := ⟨_, rfl⟩
  rw [hy0] at hR HUx ⊢
  clear hy0
  have HU0 := Lib.hid HUx
  clear HUx
  have hr0_0 := hR
  clear hR
  have hlz := lt_heap hr0_0
  have hz0 := HU0.out.size
  go_wp2_with fail
  refine (read_any l _ _ (HV.out.on HU0.out) hl).mono ?_
  rintro e y1 ⟨⟨gr, rfl, HRR⟩, hb1⟩
  have hr1_0 := (hb1.block _ (lt_heap hr0_0)).trans hr0_0
  have HU1 := Lib.hid (HU0.out.trans (hb1.mono HU0.out.size))
  clear hr0_0 HU0
  have hrr := HRR.out
  have hRP := Lib.hid (show RP (.pointer (some ⟨gr, 0, none⟩)) gr y1.heap.size (l, 0) y1 from .inr ⟨rfl, hrr.rat⟩)
  have hgr1 := hrr.1
  have hgr2 := hrr.2.1
  clear hrr HRR
  have hz1 := hb1.size
  go_upto_region 2 with fail
  have hb2 := Ve.below_n1 y1 (.cells #[.pointer (some ⟨gr, 0, none⟩)] 92)
  have hN := heap_alloc_last y1 (.cells #[.pointer (some ⟨gr, 0, none⟩)] 92)
  obtain ⟨y2, hy2⟩ : ∃ y, y1.alloc (.cells #[.pointer (some ⟨gr, 0, none⟩)] 92) = y := ⟨_, rfl⟩
  have hs2 : y2.heap.size = y1.heap.size + 1 := by rw [← hy2]; simp
  rw [hy2] at hb2 hN ⊢
  clear hy2
  have hl2_0 := lt_heap hr1_0
  have hr2_0 := (hb2.block _ (lt_heap hr1_0)).trans hr1_0
  have HU2 := Lib.hid (HU1.out.trans (hb2.mono HU1.out.size))
  clear hr1_0 HU1
  have hr2_1 := hN
  clear hN
  have HPr := Lib.hid (hRP.out.new hb2)
  clear hRP
  have hz2 := hb2.size
  clear hs2
  have c1_0 := cell_of_row _ _ 0 _ _ _ hr2_1
  simp at c1_0
  go_wp2_with fail
  refine (HC.out gr y1.heap.size _ HPr.out (by omega) (by omega)).mono ?_
  rintro e y3 ⟨⟨⟨al, cl, ad, cd, an, cn, ab, cb, ax, cx, af, cf⟩, rfl, hla⟩, hp, ha⟩
  clear c1_0
  have hr3_0 := (ha.block _ (lt_heap hr2_0) (lt_heap hr2_0) (by have := lt_heap hr2_0; omega)).trans hr2_0
  have hr3_1 := (ha.block _ (lt_heap hr2_1) (lt_heap hr2_1) (by have := lt_heap hr2_1; omega)).trans hr2_1
  have HU3 := Lib.hid (HU2.out.trans (ha.below (by omega) (by omega) (by omega)))
  have HPs := Lib.hid hp
  have hz3 := ha.size
  clear hp ha HPr hr2_0 hr2_1 HU2
  have HAT3 := Lib.hid (show FAtP (fun b => y2.heap.size ≤ b ∧ b < y3.heap.size) y3 (⟨W, H, n, n, n, n, n, n, L, D, N, Q, S, F⟩ : Flm) (⟨al, cl, ad, cd, an, cn, ab, cb, ax, cx, af, cf⟩ : Pl) from hla.lt.weak (fun b hb => by omega))
  clear hla
  go_upto_region 3 with fail
  have hb4 := Ve.below_n1 y3 (.cells #[.int .i64 W, .int .i64 H, .slice al n cl, .slice ad n cd, .slice an n cn, .slice ab n cb, .slice ax n cx, .slice af n cf] 39)
  have hN := heap_alloc_last y3 (.cells #[.int .i64 W, .int .i64 H, .slice al n cl, .slice ad n cd, .slice an n cn, .slice ab n cb, .slice ax n cx, .slice af n cf] 39)
  obtain ⟨y4, hy4⟩ : ∃ y, y3.alloc (.cells #[.int .i64 W, .int .i64 H, .slice al n cl, .slice ad n cd, .slice an n cn, .slice ab n cb, .slice ax n cx, .slice af n cf] 39) = y := ⟨_, rfl⟩
  have hs4 : y4.heap.size = y3.heap.size + 1 := by rw [← hy4]; simp
  rw [hy4] at hb4 hN ⊢
  clear hy4
  have hl4_0 := lt_heap hr3_0
  have hl4_1 := lt_heap hr3_1
  have hr4_0 := (hb4.block _ (lt_heap hr3_0)).trans hr3_0
  have hr4_1 := (hb4.block _ (lt_heap hr3_1)).trans hr3_1
  have HU4 := Lib.hid (HU3.out.trans (hb4.mono HU3.out.size))
  clear hr3_0 hr3_1 HU3
  have hr4_2 := hN
  clear hN
  have HPt := Lib.hid (HPs.out.new hb4)
  clear HPs
  have hz4 := hb4.size
  clear hs4
  have HAT4 := Lib.hid (HAT3.out.keep (fun b hb => hb4.block b hb.2))
  clear HAT3
  have c1_0 := cell_of_row _ _ 0 _ _ _ hr4_1
  simp at c1_0
  go_wp2_with fail
  refine (end_any _ gr _ _ HPt.out).mono ?_
  rintro e y5 ⟨rfl, hp, ha⟩
  clear c1_0
  have hr5_0 := (ha.block _ (lt_heap hr4_0) (lt_heap hr4_0) (by omega)).trans hr4_0
  have hr5_1 := (ha.block _ (lt_heap hr4_1) (lt_heap hr4_1) (by omega)).trans hr4_1
  have hr5_2 := (ha.block _ (lt_heap hr4_2) (lt_heap hr4_2) (by omega)).trans hr4_2
  have HAT5 := Lib.hid (HAT4.out.keep (fun b hb => ha.block b (by omega) (by omega) (by omega)))
  clear HAT4
  have HU5 := Lib.hid (HU4.out.trans (ha.below (by omega) (by omega) (by omega)))
  have hz5 := ha.size
  clear hp ha HPt hr4_0 hr4_1 hr4_2 HU4
  rw [← HE.out]
  have d1 : (er != 0) = true := by simpa using h0
  have d2 : (er == 0) = false := by simpa using h0
  clear h0
  go_upto_region 5 with fail
  have hHr := Lib.hid hr5_0
  have hHi := Lib.hid (show (Try.prog.info? 39).map (·.size) = some (#[.int .i64 0, .int .i64 0, .slice none 0 0, .slice none 0 0, .slice none 0 0, .slice none 0 0, .slice none 0 0, .slice none 0 0] : Array Value).size by kernel_rfl)
  have hHz := Lib.hid (show (#[.int .i64 0, .int .i64 0, .slice none 0 0, .slice none 0 0, .slice none 0 0, .slice none 0 0, .slice none 0 0, .slice none 0 0] : Array Value).size = (#[.int .i64 0, .int .i64 0, .slice none 0 0, .slice none 0 0, .slice none 0 0, .slice none 0 0, .slice none 0 0, .slice none 0 0] : Array Value).size from rfl)
  have hHo := Lib.hid (show (#[.int .i64 0, .int .i64 0, .slice none 0 0, .slice none 0 0, .slice none 0 0, .slice none 0 0, .slice none 0 0, .slice none 0 0] : Array Value).all (·.oneCell') = true by simp [Value.oneCell'])
  go_wp2_with (first | (refine Au.wpList_store_row rfl 39 (.tmp 2) (.tmp 17) rfl y5 #[.int .i64 0, .int .i64 0, .slice none 0 0, .slice none 0 0, .slice none 0 0, .slice none 0 0, .slice none 0 0, .slice none 0 0] #[.int .i64 0, .int .i64 0, .slice none 0 0, .slice none 0 0, .slice none 0 0, .slice none 0 0, .slice none 0 0, .slice none 0 0] (w.heap.size) 39 hHr.out rfl rfl hHi.out hHz.out hHo.out ?_))
  clear hHr hHi hHz hHo
  have hN := setRow_heap _ (w.heap.size) _ #[.int .i64 0, .int .i64 0, .slice none 0 0, .slice none 0 0, .slice none 0 0, .slice none 0 0, .slice none 0 0, .slice none 0 0] _ _ hr5_0
  have hsz := HU5.out.size
  have HUx := below_setRow (g := w.heap.size) HU5.out (by first | omega | (simp at *; omega)) #[.int .i64 0, .int .i64 0, .slice none 0 0, .slice none 0 0, .slice none 0 0, .slice none 0 0, .slice none 0 0, .slice none 0 0]
  have hO : ∀ kk, kk ≠ w.heap.size → (y5.setRow (w.heap.size) #[.int .i64 0, .int .i64 0, .slice none 0 0, .slice none 0 0, .slice none 0 0, .slice none 0 0, .slice none 0 0, .slice none 0 0]).heap[kk]? = y5.heap[kk]? := fun kk hk => setRow_other _ _ _ _ hk
  obtain ⟨y6, hy6⟩ : ∃ y, y5.setRow (w.heap.size) #[.int .i64 0, .int .i64 0, .slice none 0 0, .slice none 0 0, .slice none 0 0, .slice none 0 0, .slice none 0 0, .slice none 0 0] = y := ⟨_, rfl⟩
  rw [hy6] at hN HUx hO ⊢
  clear hy6 hsz
  have HU6 := Lib.hid HUx
  clear HUx
  have hr6_0 := hN
  have hr6_1 := (hO _ (by omega)).trans hr5_1
  have hr6_2 := (hO _ (by omega)).trans hr5_2
  clear hN hO
  clear hr5_0 hr5_1 hr5_2 HU5
  go_wp2
  exact bodyPost_ret (v := .tuple #[.agg #[.int .i64 0, .int .i64 0, .slice none 0 0, .slice none 0 0, .slice none 0 0, .slice none 0 0, .slice none 0 0, .slice none 0 0], .int .i64 er]) (results_row2 (t := 39) Try.results22 rfl rfl hr6_0 Try.underlying39 rfl (by kernel_rfl)) rfl ⟨rfl, HU6.out⟩

/-! ### what bytes are read as -/
/-- what is wrong with bytes as a sheet, once they are read -/
def shE (l : List UInt8) : Int := (endS (fT0 (l, 0))).2
/-- as a film, once they are read; as a film -/
def flE (l : List UInt8) : Int := (endS (fT5 (l, 0))).2
def flR (l : List UInt8) : Int := if flE l = 0 then (if okF (fF (l, 0)) then 0 else 10) else flE l

abbrev ZSC : Array Value := #[.int .i64 0, .int .i64 0, .slice none 0 0]
abbrev ZFC : Array Value := #[.int .i64 0, .int .i64 0, .slice none 0 0, .slice none 0 0, .slice none 0 0, .slice none 0 0, .slice none 0 0, .slice none 0 0]

theorem decsheet_any (l : List UInt8) (ba : Option Addr) (bn bc : Nat) (w : World) (hv : Bs w (.slice ba bn bc) l) (hl : l.length ≤ 140737488355328) :
    Calls Try.prog 20 #[.slice ba bn bc] w fun e' w' => ((shE l = 0 ∧ ∃ a c, e' = .returned (.tuple #[.agg #[.int .i64 (fW (l, 0)), .int .i64 (fH (l, 0)), .slice a (fN (l, 0)) c], .int .i64 0]) ∧ RwP (fun b => w.heap.size ≤ b) 3 w' a (fN (l, 0)) (fF (l, 0)).L) ∨ (¬ shE l = 0 ∧ e' = .returned (.tuple #[.agg ZSC, .int .i64 (shE l)]))) ∧ Below w.heap.size w w' := by
  by_cases h : shE l = 0
  · refine (decsheet_ok l ba bn bc (fW (l, 0)) (fH (l, 0)) (fN (l, 0)) (fF (l, 0)).L (fT0 (l, 0)) w hv hl (fun g B X h1 h2 h3 => fsheet g (l, 0) X h1 h2 h3) (shE l) rfl h).mono ?_
    rintro e w' ⟨h1, h2⟩
    exact ⟨.inl ⟨h, h1⟩, h2⟩
  · refine (decsheet_no l ba bn bc (fW (l, 0)) (fH (l, 0)) (fN (l, 0)) (fF (l, 0)).L (fT0 (l, 0)) w hv hl (fun g B X h1 h2 h3 => fsheet g (l, 0) X h1 h2 h3) (shE l) rfl h).mono ?_
    rintro e w' ⟨h1, h2⟩
    exact ⟨.inr ⟨h, h1⟩, h2⟩

theorem decfilm_any (l : List UInt8) (ba : Option Addr) (bn bc : Nat) (w : World) (hv : Bs w (.slice ba bn bc) l) (hl : l.length ≤ 140737488355328) :
    Calls Try.prog 22 #[.slice ba bn bc] w fun e' w' => ((flR l = 0 ∧ flE l = 0 ∧ okF (fF (l, 0)) ∧ ∃ p : Pl, e' = .returned (.tuple #[.agg (FC (fF (l, 0)) p), .int .i64 0]) ∧ FAtP (fun b => w.heap.size ≤ b) w' (fF (l, 0)) p) ∨ (¬ flR l = 0 ∧ e' = .returned (.tuple #[.agg ZFC, .int .i64 (flR l)]))) ∧ Below w.heap.size w w' := by
  by_cases h : flE l = 0
  · by_cases ho : okF (fF (l, 0))
    · have e : flR l = 0 := by unfold flR; rw [if_pos h, if_pos ho]
      refine (decfilm_ok l ba bn bc (fW (l, 0)) (fH (l, 0)) (fN (l, 0)) (fF (l, 0)).L (fF (l, 0)).D (fF (l, 0)).N (fF (l, 0)).B (fF (l, 0)).S (fF (l, 0)).F (fT5 (l, 0)) w hv hl (fun g B X h1 h2 h3 => ffilm g (l, 0) X h1 h2 h3) (flE l) rfl h ho).mono ?_
      rintro e w' ⟨h1, h2⟩
      exact ⟨.inl ⟨by assumption, h, ho, h1⟩, h2⟩
    · have e : flR l = 10 := by unfold flR; rw [if_pos h, if_neg ho]
      rw [e]
      refine (decfilm_form l ba bn bc (fW (l, 0)) (fH (l, 0)) (fN (l, 0)) (fF (l, 0)).L (fF (l, 0)).D (fF (l, 0)).N (fF (l, 0)).B (fF (l, 0)).S (fF (l, 0)).F (fT5 (l, 0)) w hv hl (fun g B X h1 h2 h3 => ffilm g (l, 0) X h1 h2 h3) (flE l) rfl h ho).mono ?_
      rintro e w' ⟨h1, h2⟩
      exact ⟨.inr ⟨by decide, h1⟩, h2⟩
  · have e : flR l = flE l := by unfold flR; rw [if_neg h]
    rw [e]
    refine (decfilm_no l ba bn bc (fW (l, 0)) (fH (l, 0)) (fN (l, 0)) (fF (l, 0)).L (fF (l, 0)).D (fF (l, 0)).N (fF (l, 0)).B (fF (l, 0)).S (fF (l, 0)).F (fT5 (l, 0)) w hv hl (fun g B X h1 h2 h3 => ffilm g (l, 0) X h1 h2 h3) (flE l) rfl h).mono ?_
    rintro e w' ⟨h1, h2⟩
    exact ⟨.inr ⟨h, h1⟩, h2⟩

end Go.Proofs.Ytgkfoiekminfmaa.Fm
