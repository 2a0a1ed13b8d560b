/- Trees: the document's Make. -/
import Derived.Test.YtoppcnkfgmbpfaaE46
import Derived.Test.YtoppcnkfgmbpfaaE40
namespace Go.Proofs.Ytoppcnkfgmbpfaa.Tr
open Go.RowKit Go.Proofs.Ytoppcnkfgmbpfaa Go.Proofs.Ytoppcnkfgmbpfaa.Wa Go.Proofs.Ytoppcnkfgmbpfaa.Ve Go.Proofs.Ytoppcnkfgmbpfaa.Au Go.Proofs.Ytoppcnkfgmbpfaa.Bx
set_option linter.unusedVariables false
set_option linter.unusedSimpArgs false

set_option maxHeartbeats 2000000 in
set_option maxRecDepth 100000 in
theorem rmake_none (a : Option Addr) (n pc : Nat) (hn : n = 0 ∨ 128 < n) (hm : n ≤ 4611686018427387904) (w : World)  : Calls Try.prog 8 #[.slice a n pc] w fun e' w' => e' = .returned (.agg #[.slice none 0 0, .slice none 0 0]) ∧ Below w.heap.size w w' := by
  go_enter Try.func8, Try.ntmps8
  go_upto_region 1 with fail
  have hR := Au.rows1 w (.cells #[.slice none 0 0, .slice none 0 0] 33)
  have HUx := below_n1 w (.cells #[.slice none 0 0, .slice none 0 0] 33)
  obtain ⟨y0, hy0⟩ : ∃ y0, w.alloc (.cells #[.slice none 0 0, .slice none 0 0] 33) = y0 := ⟨_, rfl⟩
  rw [hy0] at hR HUx ⊢
  clear hy0
  have HU0 := Lib.hid HUx
  clear HUx
  have hr0_0 := hR
  clear hR
  by_cases h0 : n = 0
  · subst h0
    go_upto_region 2 with fail
    have hHr := Lib.hid hr0_0
    have hHi := Lib.hid (show (Try.prog.info? 33).map (·.size) = some (#[.slice none 0 0, .slice none 0 0] : Array Value).size by kernel_rfl)
    have hHz := Lib.hid (show (#[.slice none 0 0, .slice none 0 0] : Array Value).size = (#[.slice none 0 0, .slice none 0 0] : Array Value).size from rfl)
    have hHo := Lib.hid (show (#[.slice none 0 0, .slice none 0 0] : Array Value).all (·.oneCell') = true by simp [Value.oneCell'])
    go_wp2_with (first | (refine Au.wpList_store_row rfl 33 (.tmp 2) (.tmp 13) rfl y0 #[.slice none 0 0, .slice none 0 0] #[.slice none 0 0, .slice none 0 0] (w.heap.size) 33 hHr.out rfl rfl hHi.out hHz.out hHo.out ?_))
    clear hHr hHi hHz hHo
    have hN := setRow_heap _ (w.heap.size) _ #[.slice none 0 0, .slice none 0 0] _ _ hr0_0
    have hsz := HU0.out.size
    have HUx := below_setRow (g := w.heap.size) HU0.out (by first | omega | (simp at *; omega)) #[.slice none 0 0, .slice none 0 0]
    have hO : ∀ kk, kk ≠ w.heap.size → (y0.setRow (w.heap.size) #[.slice none 0 0, .slice none 0 0]).heap[kk]? = y0.heap[kk]? := fun kk hk => setRow_other _ _ _ _ hk
    obtain ⟨y1, hy1⟩ : ∃ y, y0.setRow (w.heap.size) #[.slice none 0 0, .slice none 0 0] = y := ⟨_, rfl⟩
    rw [hy1] at hN HUx hO ⊢
    clear hy1 hsz
    have HU1 := Lib.hid HUx
    clear HUx
    have hr1_0 := hN
    clear hN hO
    clear hr0_0 HU0
    have c0_0 := cell_of_row _ _ 0 _ _ _ hr1_0
    have c0_1 := cell_of_row _ _ 1 _ _ _ hr1_0
    simp at c0_0 c0_1
    go_wp2
    exact bodyPost_ret (v := .agg #[.slice none 0 0, .slice none 0 0]) (by simp [results, Try.results8, go_sem, c0_0, c0_1]) rfl ⟨rfl, HU1.out⟩
  · have h1 : (128 : Int) < (n : Int) := by omega
    have h2 : ((n : Int) == 0) = false := by simp; omega
    go_upto_region 2 with fail
    have hHr := Lib.hid hr0_0
    have hHi := Lib.hid (show (Try.prog.info? 33).map (·.size) = some (#[.slice none 0 0, .slice none 0 0] : Array Value).size by kernel_rfl)
    have hHz := Lib.hid (show (#[.slice none 0 0, .slice none 0 0] : Array Value).size = (#[.slice none 0 0, .slice none 0 0] : Array Value).size from rfl)
    have hHo := Lib.hid (show (#[.slice none 0 0, .slice none 0 0] : Array Value).all (·.oneCell') = true by simp [Value.oneCell'])
    go_wp2_with (first | (refine Au.wpList_store_row rfl 33 (.tmp 2) (.tmp 13) rfl y0 #[.slice none 0 0, .slice none 0 0] #[.slice none 0 0, .slice none 0 0] (w.heap.size) 33 hHr.out rfl rfl hHi.out hHz.out hHo.out ?_))
    clear hHr hHi hHz hHo
    have hN := setRow_heap _ (w.heap.size) _ #[.slice none 0 0, .slice none 0 0] _ _ hr0_0
    have hsz := HU0.out.size
    have HUx := below_setRow (g := w.heap.size) HU0.out (by first | omega | (simp at *; omega)) #[.slice none 0 0, .slice none 0 0]
    have hO : ∀ kk, kk ≠ w.heap.size → (y0.setRow (w.heap.size) #[.slice none 0 0, .slice none 0 0]).heap[kk]? = y0.heap[kk]? := fun kk hk => setRow_other _ _ _ _ hk
    obtain ⟨y1, hy1⟩ : ∃ y, y0.setRow (w.heap.size) #[.slice none 0 0, .slice none 0 0] = y := ⟨_, rfl⟩
    rw [hy1] at hN HUx hO ⊢
    clear hy1 hsz
    have HU1 := Lib.hid HUx
    clear HUx
    have hr1_0 := hN
    clear hN hO
    clear hr0_0 HU0
    have c0_0 := cell_of_row _ _ 0 _ _ _ hr1_0
    have c0_1 := cell_of_row _ _ 1 _ _ _ hr1_0
    simp at c0_0 c0_1
    go_wp2
    exact bodyPost_ret (v := .agg #[.slice none 0 0, .slice none 0 0]) (by simp [results, Try.results8, go_sem, c0_0, c0_1]) rfl ⟨rfl, HU1.out⟩


/-- a tree as the document holds it -/
def TreeR (PL : Nat → Int) (base : Nat) (ns : List Nd) (od : List Nat) (v : Value) (w : World) : Prop := ∃ vn vo, v = .agg #[vn, vo] ∧ RAt base w PL ns od vn vo

set_option maxHeartbeats 4000000 in
set_option maxRecDepth 100000 in
theorem rmake_l (PL : Nat → Int) (n gp op pc : Nat) (h1 : 1 ≤ n) (h2 : n ≤ 128) (w : World) (hgp : gp < w.heap.size) (hp : ∀ j, j < n * 12 → w.cell? ⟨gp, op + j, none⟩ = some (.int .i64 (PL j))) :
    Calls Try.prog 8 #[.slice (some ⟨gp, op, none⟩) n pc] w fun e w' => (∃ v, e = .returned v ∧ TreeR PL w.heap.size (grow PL n (List.range n) 0 0).1 (grow PL n (List.range n) 0 0).2 v w') ∧ Below w.heap.size w w' := by

  have HPP := Lib.hid hp
  clear hp
  obtain ⟨j0, ji, jz0, jz1, jz2⟩ := info_parts infoInt1
  have h0 : ((n : Int) == 0) = false := by simp; omega
  have h3 : ¬ (128 : Int) < (n : Int) := by omega
  go_enter Try.func8, Try.ntmps8
  go_upto_region 1 with fail
  have hR := Au.rows1 w (.cells #[.slice none 0 0, .slice none 0 0] 33)
  have HUx := below_n1 w (.cells #[.slice none 0 0, .slice none 0 0] 33)
  obtain ⟨y0, hy0⟩ : ∃ y0, w.alloc (.cells #[.slice none 0 0, .slice none 0 0] 33) = y0 := ⟨_, rfl⟩
  rw [hy0] at hR HUx ⊢
  clear hy0
  have HU0 := Lib.hid HUx
  clear HUx
  have hr0_0 := hR
  clear hR
  have hrl := lt_heap hr0_0
  obtain ⟨y1, rfl⟩ : ∃ y : World, y = y0 := ⟨_, rfl⟩
  have hsz1 := HU0.out.size
  go_upto_region 5 with fail
  go_loopw [3, 4] (fun v i wr => ∃ k : Nat, k ≤ n ∧ i = .int .i64 k ∧ Hid (wr.ownsRow y1.heap.size 3 1 v k (nv (List.range k))) ∧ Hid (Below y1.heap.size y1 wr)) (fun _ i _ => n - (intOf i).toNat)
  case atStart => exact ⟨0, by omega, rfl, Lib.hid (World.ownsRow_nil _ _ _ _), Lib.hid (Below.refl _ _)⟩
  case round =>
    obtain ⟨k, hk, rfl, HO, HB⟩ := hrel
    have hbs := HB.out.size
    by_cases hlt' : k < n
    · have hki : (k : Int) < (n : Int) := by omega
      have HI := Lib.hid (HO.out.alloc (.cells #[.int .i64 (k : Int)] 3))
      have HX1 := Lib.hid (show ∀ j u, ([.int .i64 (k : Int)] : List Value)[j]? = some u → (wr.alloc (.cells #[.int .i64 (k : Int)] 3)).cell? ((⟨wr.heap.size, 0, none⟩ : Addr).add j) = some u from cell_one_new _ _ _)
      have HX2 := Lib.hid (show ∀ u ∈ ([.int .i64 (k : Int)] : List Value), u.oneCell' = true by intro u hu; simp only [List.mem_cons, List.not_mem_nil, or_false] at hu; subst hu; rfl)
      go_wp2_with (first | (at_builtin; refine wpList_append_own _ rfl _ _ 25 rfl y1.heap.size 3 j0 (.int .i64 0) 1 8 Try.underlying25 ji jz0 jz1 jz2 rfl (by decide) _ _ _ rfl HI.out ⟨wr.heap.size, 0, none⟩ 1 1 [.int .i64 (k : Int)] rfl rfl HX1.out HX2.out ?c3 ?c4 ?c5 ?_))
      case c3 => unfold maxLen; omega
      case c4 => omega
      case c5 => (first | omega | (simp; omega))
      intro v2 w4 hown hgrow _
      have HB3 := Lib.hid ((HB.out.alloc hbs _).grown hgrow (by simp; omega) (fun q hq => (HO.out.lt q hq).1))
      rw [← nv_range n k] at hown
      have HO3 := Lib.hid hown
      clear hown hgrow HX1 HX2 HI
      go_wp2_with fail
      go_roundw
      case rel => exact ⟨k + 1, by omega, by go_num, HO3, HB3⟩
      case measure => simp [intOf]; omega
    · have hkm : k = n := by omega
      subst hkm
      have hnl : ¬ (k : Int) < (k : Int) := by omega
      clear hlt' hk
      obtain ⟨yL, rfl⟩ : ∃ y : World, y = wr := ⟨_, rfl⟩
      rcases HO.out.2 with ⟨_, hx0⟩ | ⟨ga, cap, cur, hv, hga, hcur, hncap, -, -, htake⟩
      · exact absurd hx0 (by omega)
      subst hv
      have hlc := lt_heap hcur
      have HBW := Lib.hid (HU0.out.trans (HB.out.mono HU0.out.size))
      have hrr := (HB.out.block (w.heap.size) hrl).trans hr0_0
      have hin : AddInR PL k w.heap.size gp op ga 0 cap (List.range k) [] [] (.slice none 0 0) (.slice none 0 0) yL :=
        ⟨by simpa using h1, by simp; omega, fun j hj => by rw [range_getD _ _ (by simpa using hj)]; simpa using hj, by simpa using hncap, HBW.out.size, ⟨World.ownsRow_nil _ _ _ _, World.ownsRow_nil _ _ _ _⟩,
          fun j hj => (HBW.out.cell (p := ⟨gp, op + j, none⟩) hgp).trans (HPP.out j hj), hlc, (by intro h; cases h), (by intro h; cases h),
          fun j hj => by
            have hj' : j < k := by simpa using hj
            rw [Nat.zero_add, HO.out.cellAt j (by omega), nv_at _ _ hj], by simp; omega, by simp; omega⟩
      have had := rnode_f PL k w.heap.size gp op pc (by omega) hgp k (List.range k) (by simp) ga 0 cap [] [] _ _ yL hin
      rw [List.length_range] at had
      have HAD := Lib.hid had
      have HRR := Lib.hid hrr
      have hrrl := lt_heap hrr
      clear had hin hrr hcur htake
      go_upto_region 8 with fail
      go_wp2_with fail
      refine HAD.out.mono ?_
      rintro e y30 ⟨vn, vo, rfl, hM, hK⟩
      rw [List.nil_append, List.nil_append] at hM
      simp only [List.length_nil] at hM
      obtain ⟨an, kn, hvn⟩ := own_slice hM.rn
      obtain ⟨ao, ko, hvo⟩ := own_slice hM.ro
      have hr30 := (hK.other w.heap.size hrrl (by intro h; cases h) (by intro h; cases h)).trans HRR.out
      have HU30 := Lib.hid (HBW.out.trans (hK.below.mono (Nat.le_refl _)))
      obtain ⟨nn, hnn⟩ : ∃ x, x = (grow PL k (List.range k) 0 0).1.length := ⟨_, rfl⟩
      obtain ⟨oo, hoo⟩ : ∃ x, x = (grow PL k (List.range k) 0 0).2.length := ⟨_, rfl⟩
      rw [← hnn] at hvn
      rw [← hoo] at hvo
      subst hvn
      subst hvo
      have hMr := r_row (cs' := #[.slice an nn kn, .slice ao oo ko]) hM hr30
      have HMr := Lib.hid hMr
      have hHr := Lib.hid hr30
      have hHi := Lib.hid (show (Try.prog.info? 33).map (·.size) = some (#[.slice an nn kn, .slice ao oo ko] : Array Value).size by kernel_rfl)
      have hHz := Lib.hid (show (#[.slice none 0 0, .slice none 0 0] : Array Value).size = (#[.slice an nn kn, .slice ao oo ko] : Array Value).size from rfl)
      have hHo := Lib.hid (show (#[.slice an nn kn, .slice ao oo ko] : Array Value).all (·.oneCell') = true by simp [Value.oneCell'])
      clear hMr hM hK hnn hoo
      go_wp2_with (first | (refine Au.wpList_store_row rfl 33 (.tmp 2) (.tmp 27) rfl y30 #[.slice none 0 0, .slice none 0 0] #[.slice an nn kn, .slice ao oo ko] w.heap.size 33 hHr.out rfl rfl hHi.out hHz.out hHo.out ?_))
      have hN := setRow_heap y30 w.heap.size _ #[.slice an nn kn, .slice ao oo ko] _ _ hHr.out
      have d0 := cell_of_row _ _ 0 _ _ _ hN
      have d1 := cell_of_row _ _ 1 _ _ _ hN
      simp at d0 d1
      exact bodyPost_ret (v := .agg #[.slice an nn kn, .slice ao oo ko]) (by simp [results, Try.results8, go_sem, d0, d1]) rfl ⟨⟨_, rfl, _, _, rfl, HMr.out⟩, below_setRow HU30.out (Nat.le_refl _) _⟩

end Go.Proofs.Ytoppcnkfgmbpfaa.Tr
