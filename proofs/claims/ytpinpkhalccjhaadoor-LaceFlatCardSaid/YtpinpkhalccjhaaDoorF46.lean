/- Lights smoothed: Level, Smooth by the program. -/
import Derived.Test.YtpinpkhalccjhaaDoorF45
namespace Go.Proofs.YtpinpkhalccjhaaDoor.Fm
open Go Go.RowKit Go.Proofs.YtpinpkhalccjhaaDoor Go.Proofs.YtpinpkhalccjhaaDoor.Rp Go.Proofs.YtpinpkhalccjhaaDoor.Re Go.Proofs.YtpinpkhalccjhaaDoor.Au Go.Proofs.YtpinpkhalccjhaaDoor.Jw
set_option linter.unusedVariables false
set_option linter.unusedSimpArgs false

theorem rwp_low {c : Nat} {w : World} {a : Option Addr} {n : Nat} {L : Nat → Int} (h : Rw c w a n L) : RwP (fun b => b < w.heap.size) c w a n L := by
  rcases h with h | ⟨b, off, h1, h2, h3⟩
  · exact .inl h
  · exact .inr ⟨b, off, h1, h2, h3⟩

set_option maxHeartbeats 4000000 in
set_option maxRecDepth 100000 in
theorem smooth_no (f : Flm) (p : Pl) (W3 H3 : Int) (a : Option Addr) (n c : Nat) (L : Nat → Int) (w : World) (hf : FAt w f p) (ho : ¬ fitP f W3 H3 n) : Calls Tryd.prog 16 #[.agg (FC f p), .agg #[.int .i64 W3, .int .i64 H3, .slice a n c]] w fun e' w' => e' = .returned (.tuple #[.agg #[.int .i64 0, .int .i64 0, .slice none 0 0], .int .i64 1]) ∧ Below w.heap.size w w' := by
  have HF := Lib.hid hf
  clear hf
  have HO := Lib.hid ho
  clear ho
  go_enter Tryd.func16, Tryd.ntmps16
  go_upto_region 1 with fail
  have hR := Au.rows3 w (.cells (FC f p) 43) (.cells #[.int .i64 W3, .int .i64 H3, .slice a n c] 39) (.cells #[.int .i64 0, .int .i64 0, .slice none 0 0] 39)
  have HUx := Ve.below_n3 w (.cells (FC f p) 43) (.cells #[.int .i64 W3, .int .i64 H3, .slice a n c] 39) (.cells #[.int .i64 0, .int .i64 0, .slice none 0 0] 39)
  obtain ⟨y0, hy0⟩ : ∃ y0, ((w.alloc (.cells (FC f p) 43)).alloc (.cells #[.int .i64 W3, .int .i64 H3, .slice a n c] 39)).alloc (.cells #[.int .i64 0, .int .i64 0, .slice none 0 0] 39) = y0 := ⟨_, rfl⟩
  rw [hy0] at hR HUx ⊢
  clear hy0
  have HU0 := Lib.hid HUx
  clear HUx
  obtain ⟨hr0_0, hr0_1, hr0_2⟩ := hR
  have c0_0 := cell_of_row _ _ 0 _ _ _ hr0_0
  have c0_1 := cell_of_row _ _ 1 _ _ _ hr0_0
  have c0_2 := cell_of_row _ _ 2 _ _ _ hr0_0
  have c0_3 := cell_of_row _ _ 3 _ _ _ hr0_0
  have c0_4 := cell_of_row _ _ 4 _ _ _ hr0_0
  have c0_5 := cell_of_row _ _ 5 _ _ _ hr0_0
  have c0_6 := cell_of_row _ _ 6 _ _ _ hr0_0
  have c0_7 := cell_of_row _ _ 7 _ _ _ hr0_0
  simp at c0_0 c0_1 c0_2 c0_3 c0_4 c0_5 c0_6 c0_7
  have c1_0 := cell_of_row _ _ 0 _ _ _ hr0_1
  have c1_1 := cell_of_row _ _ 1 _ _ _ hr0_1
  have c1_2 := cell_of_row _ _ 2 _ _ _ hr0_1
  simp at c1_0 c1_1 c1_2
  go_wp2_with fail
  clear c0_0 c0_1 c0_2 c0_3 c0_4 c0_5 c0_6 c0_7
  refine (fit_any f p W3 H3 a n c L _ (HF.out.on HU0.out)).mono ?_
  rintro e y1 ⟨rfl, hb1⟩
  clear c1_0 c1_1 c1_2
  have hr1_0 := (hb1.block _ (lt_heap hr0_0)).trans hr0_0
  have hr1_1 := (hb1.block _ (lt_heap hr0_1)).trans hr0_1
  have hr1_2 := (hb1.block _ (lt_heap hr0_2)).trans hr0_2
  have HU1 := Lib.hid (HU0.out.trans (hb1.mono HU0.out.size))
  clear hr0_0 hr0_1 hr0_2 HU0
  rw [decide_eq_false HO.out]
  go_upto_region 2 with fail
  have hHr := Lib.hid hr1_2
  have hHi := Lib.hid (show (Tryd.prog.info? 39).map (·.size) = some (#[.int .i64 0, .int .i64 0, .slice none 0 0] : Array Value).size by kernel_rfl)
  have hHz := Lib.hid (show (#[.int .i64 0, .int .i64 0, .slice none 0 0] : Array Value).size = (#[.int .i64 0, .int .i64 0, .slice none 0 0] : Array Value).size from rfl)
  have hHo := Lib.hid (show (#[.int .i64 0, .int .i64 0, .slice none 0 0] : Array Value).all (·.oneCell') = true by simp [Value.oneCell'])
  go_wp2_with (first | (refine Au.wpList_store_row rfl 39 (.tmp 4) (.tmp 11) rfl y1 #[.int .i64 0, .int .i64 0, .slice none 0 0] #[.int .i64 0, .int .i64 0, .slice none 0 0] (w.heap.size + 1 + 1) 39 hHr.out rfl rfl hHi.out hHz.out hHo.out ?_))
  clear hHr hHi hHz hHo
  have hN := setRow_heap _ (w.heap.size + 1 + 1) _ #[.int .i64 0, .int .i64 0, .slice none 0 0] _ _ hr1_2
  have hsz := HU1.out.size
  have HUx := below_setRow (g := w.heap.size + 1 + 1) HU1.out (by first | omega | (simp at *; omega)) #[.int .i64 0, .int .i64 0, .slice none 0 0]
  have hO : ∀ kk, kk ≠ w.heap.size + 1 + 1 → (y1.setRow (w.heap.size + 1 + 1) #[.int .i64 0, .int .i64 0, .slice none 0 0]).heap[kk]? = y1.heap[kk]? := fun kk hk => setRow_other _ _ _ _ hk
  obtain ⟨y2, hy2⟩ : ∃ y, y1.setRow (w.heap.size + 1 + 1) #[.int .i64 0, .int .i64 0, .slice none 0 0] = y := ⟨_, rfl⟩
  rw [hy2] at hN HUx hO ⊢
  clear hy2 hsz
  have HU2 := Lib.hid HUx
  clear HUx
  have hr2_0 := (hO _ (by omega)).trans hr1_0
  have hr2_1 := (hO _ (by omega)).trans hr1_1
  have hr2_2 := hN
  clear hN hO
  clear hr1_0 hr1_1 hr1_2 HU1
  have c2_0 := cell_of_row _ _ 0 _ _ _ hr2_2
  have c2_1 := cell_of_row _ _ 1 _ _ _ hr2_2
  have c2_2 := cell_of_row _ _ 2 _ _ _ hr2_2
  simp at c2_0 c2_1 c2_2
  go_wp2
  exact bodyPost_ret (v := .tuple #[.agg #[.int .i64 0, .int .i64 0, .slice none 0 0], .int .i64 1]) (by simp [results, Tryd.results16, go_sem, c2_0, c2_1, c2_2]) rfl ⟨rfl, HU2.out⟩

set_option maxHeartbeats 8000000 in
set_option maxRecDepth 100000 in
theorem smooth_ok (f : Flm) (p : Pl) (a : Option Addr) (n c : Nat) (L : Nat → Int) (Wn Hn : Nat) (w : World) (hf : FAt w f p) (hl : Rw 3 w a n L) (hw : f.W = Wn) (hh : f.H = Hn) (ho : fitP f Wn Hn n) (hn : n = Wn * Hn) (hcn : Cnt w) : Calls Tryd.prog 16 #[.agg (FC f p), .agg #[.int .i64 (Wn : Nat), .int .i64 (Hn : Nat), .slice a n c]] w fun e' w' => (∃ a' c', e' = .returned (.tuple #[.agg #[.int .i64 (Wn : Nat), .int .i64 (Hn : Nat), .slice a' n c'], .int .i64 0]) ∧ RwP (fun b => w.heap.size ≤ b) 3 w' a' n (lvs f Wn Hn L 5)) ∧ Below w.heap.size w w' := by
  have HF := Lib.hid hf
  have HL := Lib.hid hl
  have HW_ := Lib.hid hw
  have HH_ := Lib.hid hh
  have HO := Lib.hid ho
  have HC := Lib.hid hcn
  have HN := Lib.hid hn
  clear hf hl hw hh ho hcn hn
  go_enter Tryd.func16, Tryd.ntmps16
  go_upto_region 1 with fail
  have hR := Au.rows3 w (.cells (FC f p) 43) (.cells #[.int .i64 (Wn : Nat), .int .i64 (Hn : Nat), .slice a n c] 39) (.cells #[.int .i64 0, .int .i64 0, .slice none 0 0] 39)
  have HUx := Ve.below_n3 w (.cells (FC f p) 43) (.cells #[.int .i64 (Wn : Nat), .int .i64 (Hn : Nat), .slice a n c] 39) (.cells #[.int .i64 0, .int .i64 0, .slice none 0 0] 39)
  obtain ⟨y0, hy0⟩ : ∃ y0, ((w.alloc (.cells (FC f p) 43)).alloc (.cells #[.int .i64 (Wn : Nat), .int .i64 (Hn : Nat), .slice a n c] 39)).alloc (.cells #[.int .i64 0, .int .i64 0, .slice none 0 0] 39) = y0 := ⟨_, rfl⟩
  rw [hy0] at hR HUx ⊢
  clear hy0
  have HU0 := Lib.hid HUx
  clear HUx
  obtain ⟨hr0_0, hr0_1, hr0_2⟩ := hR
  have c0_0 := cell_of_row _ _ 0 _ _ _ hr0_0
  have c0_1 := cell_of_row _ _ 1 _ _ _ hr0_0
  have c0_2 := cell_of_row _ _ 2 _ _ _ hr0_0
  have c0_3 := cell_of_row _ _ 3 _ _ _ hr0_0
  have c0_4 := cell_of_row _ _ 4 _ _ _ hr0_0
  have c0_5 := cell_of_row _ _ 5 _ _ _ hr0_0
  have c0_6 := cell_of_row _ _ 6 _ _ _ hr0_0
  have c0_7 := cell_of_row _ _ 7 _ _ _ hr0_0
  simp at c0_0 c0_1 c0_2 c0_3 c0_4 c0_5 c0_6 c0_7
  have c1_0 := cell_of_row _ _ 0 _ _ _ hr0_1
  have c1_1 := cell_of_row _ _ 1 _ _ _ hr0_1
  have c1_2 := cell_of_row _ _ 2 _ _ _ hr0_1
  simp at c1_0 c1_1 c1_2
  go_wp2_with fail
  clear c0_0 c0_1 c0_2 c0_3 c0_4 c0_5 c0_6 c0_7
  refine (fit_any f p Wn Hn a n c L _ (HF.out.on HU0.out)).mono ?_
  rintro e y1 ⟨rfl, hb1⟩
  clear c1_0 c1_1 c1_2
  have hr1_0 := (hb1.block _ (lt_heap hr0_0)).trans hr0_0
  have hr1_1 := (hb1.block _ (lt_heap hr0_1)).trans hr0_1
  have hr1_2 := (hb1.block _ (lt_heap hr0_2)).trans hr0_2
  have HU1 := Lib.hid (HU0.out.trans (hb1.mono HU0.out.size))
  clear hr0_0 hr0_1 hr0_2 HU0
  rw [decide_eq_true HO.out]
  have hl2 := lt_heap hr1_2
  have HR0 := Lib.hid (((rwp_low HL.out).keep (fun b hb => HU1.out.block b hb)).weak (P' := fun b => b ≠ w.heap.size + 1 ∧ b ≠ w.heap.size + 1 + 1 ∧ (0 < 0 → w.heap.size ≤ b)) (fun b hb => ⟨by omega, by omega, fun h => absurd h (by omega)⟩))
  go_upto_region 4 with fail
  go_loopw [12] (fun ix wr => ∃ (lv : Nat) (a1 : Option Addr) (c1 : Nat), lv ≤ 5 ∧ ix = .int .i64 lv ∧ wr.heap[w.heap.size + 1]? = some (.cells #[.int .i64 (Wn : Nat), .int .i64 (Hn : Nat), .slice a1 n c1] 39 (0, 0)) ∧ Hid (RwP (fun b => b ≠ w.heap.size + 1 ∧ b ≠ w.heap.size + 1 + 1 ∧ (0 < lv → w.heap.size ≤ b)) 3 wr a1 n (lvs f Wn Hn L lv)) ∧ Hid (Aw (fun z => z ≠ w.heap.size + 1) y1 wr)) (fun ix _ => 5 - (intOf ix).toNat)
  case atStart => exact ⟨0, a, c, Nat.zero_le _, rfl, hr1_1, HR0, Lib.hid (Aw.refl _ _)⟩
  case round =>
    clear HR0
    obtain ⟨lv, a1, c1, hlv, rfl, hr1, HR, HA⟩ := hrel
    have hr2_0 := (HA.out.block _ (by omega) (lt_heap hr1_0)).trans hr1_0
    have hr2_2 := (HA.out.block _ (by omega) (lt_heap hr1_2)).trans hr1_2
    have hr2_1 := hr1
    clear hr1
    have HU2 := Lib.hid (HU1.out.trans (HA.out.below (B := w.heap.size) (fun k hk => by omega) HU1.out.size))
    obtain ⟨y2, hy_⟩ : ∃ y, y = wr := ⟨_, rfl⟩
    rw [← hy_] at HR HA HU2 hr2_0 hr2_1 hr2_2 ⊢
    clear hy_
    clear hr1_0 hr1_1 hr1_2 HU1
    by_cases hlt : lv < 5
    · have hlt' : (lv : Int) < 5 := by omega
      have c0_0 := cell_of_row _ _ 0 _ _ _ hr2_0
      have c0_1 := cell_of_row _ _ 1 _ _ _ hr2_0
      have c0_2 := cell_of_row _ _ 2 _ _ _ hr2_0
      have c0_3 := cell_of_row _ _ 3 _ _ _ hr2_0
      have c0_4 := cell_of_row _ _ 4 _ _ _ hr2_0
      have c0_5 := cell_of_row _ _ 5 _ _ _ hr2_0
      have c0_6 := cell_of_row _ _ 6 _ _ _ hr2_0
      have c0_7 := cell_of_row _ _ 7 _ _ _ hr2_0
      simp at c0_0 c0_1 c0_2 c0_3 c0_4 c0_5 c0_6 c0_7
      have c1_0 := cell_of_row _ _ 0 _ _ _ hr2_1
      have c1_1 := cell_of_row _ _ 1 _ _ _ hr2_1
      have c1_2 := cell_of_row _ _ 2 _ _ _ hr2_1
      simp at c1_0 c1_1 c1_2
      go_wp2_with fail
      clear c0_0 c0_1 c0_2 c0_3 c0_4 c0_5 c0_6 c0_7
      have hl2 := lt_heap hr2_2
      refine (smoothed_any f p a1 n c1 (lvs f Wn Hn L lv) Wn Hn lv _ (HF.out.on HU2.out) (HR.out.rw (by decide)) HW_.out HH_.out HO.out.1 HN.out hlt (HC.out.on HU2.out)).mono ?_
      rintro e y3 ⟨⟨a2, c2, rfl, hsm⟩, hb3⟩
      clear c1_0 c1_1 c1_2
      have hr3_0 := (hb3.block _ (lt_heap hr2_0)).trans hr2_0
      have hr3_1 := (hb3.block _ (lt_heap hr2_1)).trans hr2_1
      have hr3_2 := (hb3.block _ (lt_heap hr2_2)).trans hr2_2
      have HU3 := Lib.hid (HU2.out.trans (hb3.mono HU2.out.size))
      clear hr2_0 hr2_1 hr2_2 HU2
      have HSM := Lib.hid (show RwP (fun b => b ≠ w.heap.size + 1 ∧ b ≠ w.heap.size + 1 + 1 ∧ (0 < lv + 1 → w.heap.size ≤ b)) 3 y3 a2 n (lvs f Wn Hn L (lv + 1)) from hsm.weak (fun b hb => ⟨by omega, by omega, fun _ => by omega⟩))
      have HA2 := Lib.hid (HA.out.trans (Aw.of hb3))
      clear hsm HR HA
      have hHr := Lib.hid hr3_1
      have hHi := Lib.hid (show (Tryd.prog.info? 39).map (·.size) = some (#[.int .i64 (Wn : Nat), .int .i64 (Hn : Nat), .slice a2 n c2] : Array Value).size by kernel_rfl)
      have hHz := Lib.hid (show (#[.int .i64 (Wn : Nat), .int .i64 (Hn : Nat), .slice a1 n c1] : Array Value).size = (#[.int .i64 (Wn : Nat), .int .i64 (Hn : Nat), .slice a2 n c2] : Array Value).size from rfl)
      have hHo := Lib.hid (show (#[.int .i64 (Wn : Nat), .int .i64 (Hn : Nat), .slice a2 n c2] : Array Value).all (·.oneCell') = true by simp [Value.oneCell'])
      go_wp2_with (first | (refine Au.wpList_store_row rfl 39 (.tmp 3) (.tmp 18) rfl y3 #[.int .i64 (Wn : Nat), .int .i64 (Hn : Nat), .slice a1 n c1] #[.int .i64 (Wn : Nat), .int .i64 (Hn : Nat), .slice a2 n c2] (w.heap.size + 1) 39 hHr.out rfl rfl hHi.out hHz.out hHo.out ?_))
      clear hHr hHi hHz hHo
      have hN := setRow_heap _ (w.heap.size + 1) _ #[.int .i64 (Wn : Nat), .int .i64 (Hn : Nat), .slice a2 n c2] _ _ hr3_1
      have hsz := HU3.out.size
      have HUx := below_setRow (g := w.heap.size + 1) HU3.out (by first | omega | (simp at *; omega)) #[.int .i64 (Wn : Nat), .int .i64 (Hn : Nat), .slice a2 n c2]
      have hO : ∀ kk, kk ≠ w.heap.size + 1 → (y3.setRow (w.heap.size + 1) #[.int .i64 (Wn : Nat), .int .i64 (Hn : Nat), .slice a2 n c2]).heap[kk]? = y3.heap[kk]? := fun kk hk => setRow_other _ _ _ _ hk
      obtain ⟨y4, hy4⟩ : ∃ y, y3.setRow (w.heap.size + 1) #[.int .i64 (Wn : Nat), .int .i64 (Hn : Nat), .slice a2 n c2] = y := ⟨_, rfl⟩
      rw [hy4] at hN HUx hO ⊢
      have hSo : y4.os = y3.os ∧ y4.tape = y3.tape ∧ y4.output = y3.output ∧ y3.heap.size ≤ y4.heap.size := by rw [← hy4]; exact ⟨rfl, rfl, rfl, by simp [World.setRow]⟩
      clear hy4 hsz
      have HU4 := Lib.hid HUx
      clear HUx
      have hr4_0 := (hO _ (by omega)).trans hr3_0
      have hr4_1 := hN
      have hr4_2 := (hO _ (by omega)).trans hr3_2
      clear hN
      clear hr3_0 hr3_1 hr3_2 HU3
      have HR3 := Lib.hid (HSM.out.keep (fun b hb => hO b hb.1))
      have HA3 := Lib.hid (show Aw (fun z => z ≠ w.heap.size + 1) y1 y4 from ⟨hSo.1.trans HA2.out.os, hSo.2.1.trans HA2.out.tape, hSo.2.2.1.trans HA2.out.output, Nat.le_trans HA2.out.size hSo.2.2.2, fun k' h1 h2 => (hO k' h1).trans (HA2.out.block k' h1 h2)⟩)
      clear hO hSo HSM HA2
      go_wp2_with fail
      go_roundw
      case rel => exact ⟨lv + 1, a2, c2, by omega, by go_num, hr4_1, HR3, HA3⟩
      case measure => simp [intOf]; omega
    · have hge : ¬ (lv : Int) < 5 := by omega
      obtain rfl : lv = 5 := by omega
      have hl2 := lt_heap hr2_2
      have c1_0 := cell_of_row _ _ 0 _ _ _ hr2_1
      have c1_1 := cell_of_row _ _ 1 _ _ _ hr2_1
      have c1_2 := cell_of_row _ _ 2 _ _ _ hr2_1
      simp at c1_0 c1_1 c1_2
      go_upto_region 8 with fail
      have hHr := Lib.hid hr2_2
      have hHi := Lib.hid (show (Tryd.prog.info? 39).map (·.size) = some (#[.int .i64 (Wn : Nat), .int .i64 (Hn : Nat), .slice a1 n c1] : Array Value).size by kernel_rfl)
      have hHz := Lib.hid (show (#[.int .i64 0, .int .i64 0, .slice none 0 0] : Array Value).size = (#[.int .i64 (Wn : Nat), .int .i64 (Hn : Nat), .slice a1 n c1] : Array Value).size from rfl)
      have hHo := Lib.hid (show (#[.int .i64 (Wn : Nat), .int .i64 (Hn : Nat), .slice a1 n c1] : Array Value).all (·.oneCell') = true by simp [Value.oneCell'])
      go_wp2_with (first | (refine Au.wpList_store_row rfl 39 (.tmp 4) (.tmp 20) rfl y2 #[.int .i64 0, .int .i64 0, .slice none 0 0] #[.int .i64 (Wn : Nat), .int .i64 (Hn : Nat), .slice a1 n c1] (w.heap.size + 1 + 1) 39 hHr.out rfl rfl hHi.out hHz.out hHo.out ?_))
      clear c1_0 c1_1 c1_2
      clear hHr hHi hHz hHo
      have hN := setRow_heap _ (w.heap.size + 1 + 1) _ #[.int .i64 (Wn : Nat), .int .i64 (Hn : Nat), .slice a1 n c1] _ _ hr2_2
      have hsz := HU2.out.size
      have HUx := below_setRow (g := w.heap.size + 1 + 1) HU2.out (by first | omega | (simp at *; omega)) #[.int .i64 (Wn : Nat), .int .i64 (Hn : Nat), .slice a1 n c1]
      have hO : ∀ kk, kk ≠ w.heap.size + 1 + 1 → (y2.setRow (w.heap.size + 1 + 1) #[.int .i64 (Wn : Nat), .int .i64 (Hn : Nat), .slice a1 n c1]).heap[kk]? = y2.heap[kk]? := fun kk hk => setRow_other _ _ _ _ hk
      obtain ⟨y3, hy3⟩ : ∃ y, y2.setRow (w.heap.size + 1 + 1) #[.int .i64 (Wn : Nat), .int .i64 (Hn : Nat), .slice a1 n c1] = y := ⟨_, rfl⟩
      rw [hy3] at hN HUx hO ⊢
      have hSo : y3.os = y2.os ∧ y3.tape = y2.tape ∧ y3.output = y2.output ∧ y2.heap.size ≤ y3.heap.size := by rw [← hy3]; exact ⟨rfl, rfl, rfl, by simp [World.setRow]⟩
      clear hy3 hsz
      have HU3 := Lib.hid HUx
      clear HUx
      have hr3_0 := (hO _ (by omega)).trans hr2_0
      have hr3_1 := (hO _ (by omega)).trans hr2_1
      have hr3_2 := hN
      clear hN
      clear hr2_0 hr2_1 hr2_2 HU2
      clear hSo
      have HXF := Lib.hid (((HR.out.weak (P' := fun b => b ≠ w.heap.size + 1 + 1 ∧ w.heap.size ≤ b) (fun b hb => ⟨hb.2.1, hb.2.2 (by omega)⟩)).keep (fun b hb => hO b hb.1)).weak (P' := fun b => w.heap.size ≤ b) (fun b hb => hb.2))
      clear hO
      have c2_0 := cell_of_row _ _ 0 _ _ _ hr3_2
      have c2_1 := cell_of_row _ _ 1 _ _ _ hr3_2
      have c2_2 := cell_of_row _ _ 2 _ _ _ hr3_2
      simp at c2_0 c2_1 c2_2
      go_wp2
      exact bodyPost_ret (v := .tuple #[.agg #[.int .i64 (Wn : Nat), .int .i64 (Hn : Nat), .slice a1 n c1], .int .i64 0]) (by simp [results, Tryd.results16, go_sem, c2_0, c2_1, c2_2]) rfl (by first | exact ⟨⟨a1, c1, rfl, HXF.out⟩, HU3.out⟩ | exact ⟨⟨a1, ⟨c1, rfl⟩, HXF.out⟩, HU3.out⟩)

end Go.Proofs.YtpinpkhalccjhaaDoor.Fm
