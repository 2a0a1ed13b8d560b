/- Trees: the program's Make. -/
import Derived.Test.YtoppcnkfgmbpfaaE39
namespace Go.Proofs.Ytoppcnkfgmbpfaa.Tr
open Go.RowKit Go.Proofs.Ytoppcnkfgmbpfaa Go.Proofs.Ytoppcnkfgmbpfaa.Wa Go.Proofs.Ytoppcnkfgmbpfaa.Ve Go.Proofs.Ytoppcnkfgmbpfaa.Au Go.Proofs.Ytoppcnkfgmbpfaa.Bx
set_option linter.unusedVariables false
set_option linter.unusedSimpArgs false

set_option maxHeartbeats 2000000 in
set_option maxRecDepth 100000 in
theorem make_none (a : Option Addr) (n pc : Nat) (hn : n = 0 ∨ 128 < n) (hm : n ≤ 4611686018427387904) (w : World)  : Calls Try.prog 6 #[.slice a n pc] w fun e' w' => e' = .returned (.agg #[.slice none 0 0, .slice none 0 0]) ∧ Below w.heap.size w w' := by
  go_enter Try.func6, Try.ntmps6
  go_upto_region 1 with fail
  have hR := Au.rows1 w (.cells #[.slice none 0 0, .slice none 0 0] 27)
  have HUx := below_n1 w (.cells #[.slice none 0 0, .slice none 0 0] 27)
  obtain ⟨y0, hy0⟩ : ∃ y0, w.alloc (.cells #[.slice none 0 0, .slice none 0 0] 27) = y0 := ⟨_, rfl⟩
  rw [hy0] at hR HUx ⊢
  clear hy0
  have HU0 := Lib.hid HUx
  clear HUx
  have hr0_0 := hR
  clear hR
  by_cases h0 : n = 0
  · subst h0
    go_upto_region 2 with fail
    have hHr := Lib.hid hr0_0
    have hHi := Lib.hid (show (Try.prog.info? 27).map (·.size) = some (#[.slice none 0 0, .slice none 0 0] : Array Value).size by kernel_rfl)
    have hHz := Lib.hid (show (#[.slice none 0 0, .slice none 0 0] : Array Value).size = (#[.slice none 0 0, .slice none 0 0] : Array Value).size from rfl)
    have hHo := Lib.hid (show (#[.slice none 0 0, .slice none 0 0] : Array Value).all (·.oneCell') = true by simp [Value.oneCell'])
    go_wp2_with (first | (refine Au.wpList_store_row rfl 27 (.tmp 2) (.tmp 14) rfl y0 #[.slice none 0 0, .slice none 0 0] #[.slice none 0 0, .slice none 0 0] (w.heap.size) 27 hHr.out rfl rfl hHi.out hHz.out hHo.out ?_))
    clear hHr hHi hHz hHo
    have hN := setRow_heap _ (w.heap.size) _ #[.slice none 0 0, .slice none 0 0] _ _ hr0_0
    have hsz := HU0.out.size
    have HUx := below_setRow (g := w.heap.size) HU0.out (by first | omega | (simp at *; omega)) #[.slice none 0 0, .slice none 0 0]
    have hO : ∀ kk, kk ≠ w.heap.size → (y0.setRow (w.heap.size) #[.slice none 0 0, .slice none 0 0]).heap[kk]? = y0.heap[kk]? := fun kk hk => setRow_other _ _ _ _ hk
    obtain ⟨y1, hy1⟩ : ∃ y, y0.setRow (w.heap.size) #[.slice none 0 0, .slice none 0 0] = y := ⟨_, rfl⟩
    rw [hy1] at hN HUx hO ⊢
    clear hy1 hsz
    have HU1 := Lib.hid HUx
    clear HUx
    have hr1_0 := hN
    clear hN hO
    clear hr0_0 HU0
    have c0_0 := cell_of_row _ _ 0 _ _ _ hr1_0
    have c0_1 := cell_of_row _ _ 1 _ _ _ hr1_0
    simp at c0_0 c0_1
    go_wp2
    exact bodyPost_ret (v := .agg #[.slice none 0 0, .slice none 0 0]) (by simp [results, Try.results6, go_sem, c0_0, c0_1]) rfl ⟨rfl, HU1.out⟩
  · have h1 : (128 : Int) < (n : Int) := by omega
    have h2 : ((n : Int) == 0) = false := by simp; omega
    go_upto_region 2 with fail
    have hHr := Lib.hid hr0_0
    have hHi := Lib.hid (show (Try.prog.info? 27).map (·.size) = some (#[.slice none 0 0, .slice none 0 0] : Array Value).size by kernel_rfl)
    have hHz := Lib.hid (show (#[.slice none 0 0, .slice none 0 0] : Array Value).size = (#[.slice none 0 0, .slice none 0 0] : Array Value).size from rfl)
    have hHo := Lib.hid (show (#[.slice none 0 0, .slice none 0 0] : Array Value).all (·.oneCell') = true by simp [Value.oneCell'])
    go_wp2_with (first | (refine Au.wpList_store_row rfl 27 (.tmp 2) (.tmp 14) rfl y0 #[.slice none 0 0, .slice none 0 0] #[.slice none 0 0, .slice none 0 0] (w.heap.size) 27 hHr.out rfl rfl hHi.out hHz.out hHo.out ?_))
    clear hHr hHi hHz hHo
    have hN := setRow_heap _ (w.heap.size) _ #[.slice none 0 0, .slice none 0 0] _ _ hr0_0
    have hsz := HU0.out.size
    have HUx := below_setRow (g := w.heap.size) HU0.out (by first | omega | (simp at *; omega)) #[.slice none 0 0, .slice none 0 0]
    have hO : ∀ kk, kk ≠ w.heap.size → (y0.setRow (w.heap.size) #[.slice none 0 0, .slice none 0 0]).heap[kk]? = y0.heap[kk]? := fun kk hk => setRow_other _ _ _ _ hk
    obtain ⟨y1, hy1⟩ : ∃ y, y0.setRow (w.heap.size) #[.slice none 0 0, .slice none 0 0] = y := ⟨_, rfl⟩
    rw [hy1] at hN HUx hO ⊢
    clear hy1 hsz
    have HU1 := Lib.hid HUx
    clear HUx
    have hr1_0 := hN
    clear hN hO
    clear hr0_0 HU0
    have c0_0 := cell_of_row _ _ 0 _ _ _ hr1_0
    have c0_1 := cell_of_row _ _ 1 _ _ _ hr1_0
    simp at c0_0 c0_1
    go_wp2
    exact bodyPost_ret (v := .agg #[.slice none 0 0, .slice none 0 0]) (by simp [results, Try.results6, go_sem, c0_0, c0_1]) rfl ⟨rfl, HU1.out⟩


/-- a tree as the program holds it -/
def TreeP (PL : Nat → Int) (base : Nat) (ns : List Nd) (od : List Nat) (v : Value) (w : World) : Prop :=
  ∃ vn vo, v = .agg #[vn, vo] ∧ w.ownsRow base 45 16 vn ns.length (flatNd PL ns) ∧ w.ownsRow base 3 1 vo od.length (nv od)

theorem range_getD (n j : Nat) (h : j < n) : (List.range n).getD j 0 = j := by
  rw [getD_lt _ _ (by simpa using h)]
  simp

theorem nv_range (n k : Nat) : nv (List.range (k + 1)) = nv (List.range k) ++ [.int .i64 (k : Int)] := by simp [nv, List.range_succ]

set_option maxHeartbeats 4000000 in
set_option maxRecDepth 100000 in
theorem make_l (PL : Nat → Int) (n gp op pc : Nat) (h1 : 1 ≤ n) (h2 : n ≤ 128) (w : World) (hgp : gp < w.heap.size) (hp : ∀ j, j < n * 12 → w.cell? ⟨gp, op + j, none⟩ = some (.int .i64 (PL j))) :
    Calls Try.prog 6 #[.slice (some ⟨gp, op, none⟩) n pc] w fun e w' => (∃ v, e = .returned v ∧ TreeP PL w.heap.size (grow PL n (List.range n) 0 0).1 (grow PL n (List.range n) 0 0).2 v w') ∧ Below w.heap.size w w' := by

  have HPP := Lib.hid hp
  clear hp
  obtain ⟨j0, ji, jz0, jz1, jz2⟩ := info_parts infoInt1
  have h0 : ((n : Int) == 0) = false := by simp; omega
  have h3 : ¬ (128 : Int) < (n : Int) := by omega
  go_enter Try.func6, Try.ntmps6
  go_upto_region 1 with fail
  have hR := Au.rows1 w (.cells #[.slice none 0 0, .slice none 0 0] 27)
  have HUx := below_n1 w (.cells #[.slice none 0 0, .slice none 0 0] 27)
  obtain ⟨y0, hy0⟩ : ∃ y0, w.alloc (.cells #[.slice none 0 0, .slice none 0 0] 27) = y0 := ⟨_, rfl⟩
  rw [hy0] at hR HUx ⊢
  clear hy0
  have HU0 := Lib.hid HUx
  clear HUx
  have hr0_0 := hR
  clear hR
  go_upto_region 3 with fail
  have HA := Lib.hid (heap_alloc_last y0 (.cells #[.slice none 0 0, .slice none 0 0, .slice none 0 0] 58))
  have hHi := Lib.hid (show (Try.prog.info? 58).map (·.size) = some (#[.slice none 0 0, .slice none 0 0, .slice (some ⟨gp, op, none⟩) n pc] : Array Value).size by kernel_rfl)
  have hHz := Lib.hid (show (#[.slice none 0 0, .slice none 0 0, .slice none 0 0] : Array Value).size = (#[.slice none 0 0, .slice none 0 0, .slice (some ⟨gp, op, none⟩) n pc] : Array Value).size from rfl)
  have hHo := Lib.hid (show (#[.slice none 0 0, .slice none 0 0, .slice (some ⟨gp, op, none⟩) n pc] : Array Value).all (·.oneCell') = true by simp [Value.oneCell'])
  go_upto_region 4 with (refine Au.wpList_store_row rfl 58 (.tmp 3) (.tmp 16) rfl (y0.alloc (.cells #[.slice none 0 0, .slice none 0 0, .slice none 0 0] 58)) #[.slice none 0 0, .slice none 0 0, .slice none 0 0] #[.slice none 0 0, .slice none 0 0, .slice (some ⟨gp, op, none⟩) n pc] (y0.heap.size) 58 HA.out rfl rfl hHi.out hHz.out hHo.out ?_)
  clear hHi hHz hHo
  have hN := setRow_heap _ (y0.heap.size) _ #[.slice none 0 0, .slice none 0 0, .slice (some ⟨gp, op, none⟩) n pc] _ _ HA.out
  clear HA
  have hsz := HU0.out.size
  have hb := below_n1 y0 (.cells #[.slice none 0 0, .slice none 0 0, .slice none 0 0] 58)
  have HUx := below_setRow (g := y0.heap.size) (HU0.out.trans (hb.mono HU0.out.size)) (by omega) #[.slice none 0 0, .slice none 0 0, .slice (some ⟨gp, op, none⟩) n pc]
  have hO : ∀ kk, kk < y0.heap.size → ((y0.alloc (.cells #[.slice none 0 0, .slice none 0 0, .slice none 0 0] 58)).setRow (y0.heap.size) #[.slice none 0 0, .slice none 0 0, .slice (some ⟨gp, op, none⟩) n pc]).heap[kk]? = y0.heap[kk]? := fun kk hk => (setRow_other _ _ _ _ (by omega)).trans (hb.block _ hk)
  obtain ⟨y1, hy1⟩ : ∃ y, (y0.alloc (.cells #[.slice none 0 0, .slice none 0 0, .slice none 0 0] 58)).setRow (y0.heap.size) #[.slice none 0 0, .slice none 0 0, .slice (some ⟨gp, op, none⟩) n pc] = y := ⟨_, rfl⟩
  have hs1 : y1.heap.size = y0.heap.size + 1 := by rw [← hy1]; simp [World.setRow]
  rw [hy1] at hN HUx hO ⊢
  clear hy1 hsz hb
  have HU1 := Lib.hid HUx
  clear HUx
  have hl1_0 := lt_heap hr0_0
  have hr1_0 := (hO _ hl1_0).trans hr0_0
  have hr1_1 := hN
  clear hN hO
  clear hr0_0 HU0
  have hsz1 := HU1.out.size
  have hml := lt_heap hr1_1
  have hrl := lt_heap hr1_0
  obtain ⟨mb, hmb⟩ : ∃ m, m = y0.heap.size := ⟨_, rfl⟩
  rw [← hmb] at hml hr1_1 ⊢
  have hwm : w.heap.size < mb := by omega
  clear hs1 hmb hl1_0
  go_upto_region 6 with fail
  go_loopw [4, 5, 19] (fun v s5 i wr => ∃ k : Nat, k ≤ n ∧ i = .int .i64 k ∧ Hid (wr.ownsRow y1.heap.size 3 1 v k (nv (List.range k))) ∧ Hid (Below y1.heap.size y1 wr)) (fun _ _ i _ => n - (intOf i).toNat)
  case atStart => exact ⟨0, by omega, rfl, Lib.hid (World.ownsRow_nil _ _ _ _), Lib.hid (Below.refl _ _)⟩
  case round =>
    obtain ⟨k, hk, rfl, HO, HB⟩ := hrel
    have hbs := HB.out.size
    by_cases hlt' : k < n
    · have hki : (k : Int) < (n : Int) := by omega
      have HI := Lib.hid (HO.out.alloc (.cells #[.int .i64 (k : Int)] 3))
      have HX1 := Lib.hid (show ∀ j u, ([.int .i64 (k : Int)] : List Value)[j]? = some u → (wr.alloc (.cells #[.int .i64 (k : Int)] 3)).cell? ((⟨wr.heap.size, 0, none⟩ : Addr).add j) = some u from cell_one_new _ _ _)
      have HX2 := Lib.hid (show ∀ u ∈ ([.int .i64 (k : Int)] : List Value), u.oneCell' = true by intro u hu; simp only [List.mem_cons, List.not_mem_nil, or_false] at hu; subst hu; rfl)
      go_wp2_with (first | (at_builtin; refine wpList_append_own _ rfl _ _ 25 rfl y1.heap.size 3 j0 (.int .i64 0) 1 8 Try.underlying25 ji jz0 jz1 jz2 rfl (by decide) _ _ _ rfl HI.out ⟨wr.heap.size, 0, none⟩ 1 1 [.int .i64 (k : Int)] rfl rfl HX1.out HX2.out ?c3 ?c4 ?c5 ?_))
      case c3 => unfold maxLen; omega
      case c4 => omega
      case c5 => (first | omega | (simp; omega))
      intro v2 w4 hown hgrow _
      have HB3 := Lib.hid ((HB.out.alloc hbs _).grown hgrow (by simp; omega) (fun q hq => (HO.out.lt q hq).1))
      rw [← nv_range n k] at hown
      have HO3 := Lib.hid hown
      clear hown hgrow HX1 HX2 HI
      go_wp2_with fail
      go_roundw
      case rel => exact ⟨k + 1, by omega, by go_num, HO3, HB3⟩
      case measure => simp [intOf]; omega
    · have hkm : k = n := by omega
      subst hkm
      have hnl : ¬ (k : Int) < (k : Int) := by omega
      clear hlt' hk
      obtain ⟨yL, rfl⟩ : ∃ y : World, y = wr := ⟨_, rfl⟩
      rcases HO.out.2 with ⟨_, hx0⟩ | ⟨ga, cap, cur, hv, hga, hcur, hncap, -, -, htake⟩
      · exact absurd hx0 (by omega)
      subst hv
      have hlies := own_lies (xs := List.range k) (by simpa using HO.out) (by simpa using h1) (fun _ => True) (fun _ _ => trivial)
      have hlc := lt_heap hcur
      have HBW := Lib.hid (HU1.out.trans (HB.out.mono HU1.out.size))
      have hrm := (HB.out.block mb hml).trans hr1_1
      have hrr := (HB.out.block (w.heap.size) hrl).trans hr1_0
      have hin : AddIn PL k w.heap.size gp op pc mb ga 0 cap (List.range k) [] [] (.slice none 0 0) (.slice none 0 0) yL :=
        ⟨by simpa using h1, by simp; omega, fun j hj => by rw [range_getD _ _ (by simpa using hj)]; simpa using hj, by simpa using hncap, HBW.out.size, ⟨hrm, World.ownsRow_nil _ _ _ _, World.ownsRow_nil _ _ _ _⟩,
          fun j hj => (HBW.out.cell (p := ⟨gp, op + j, none⟩) hgp).trans (HPP.out j hj), hlc, by omega, (by intro h; cases h), (by intro h; cases h),
          fun j hj => by
            have hj' : j < k := by simpa using hj
            rw [Nat.zero_add, HO.out.cellAt j (by omega), nv_at _ _ hj], by simp; omega, by simp; omega⟩
      have had := add_f PL k w.heap.size gp op pc mb (by omega) hgp (by omega) k (List.range k) (by simp) ga 0 cap [] [] _ _ yL hin
      rw [List.length_range] at had
      have HAD := Lib.hid had
      have HRR := Lib.hid hrr
      have hrrl := lt_heap hrr
      have hmw : mb ≠ w.heap.size := by omega
      clear had hin hlies hrm hrr hcur htake
      go_upto_region 10 with fail
      go_wp2_with fail
      refine HAD.out.mono ?_
      rintro e y30 ⟨rfl, vn, vo, hM, hK⟩
      rw [List.nil_append, List.nil_append] at hM
      simp only [List.length_nil] at hM
      have hgl := grow_len PL k (List.range k) 0 0 (by simpa using h1) (by simp)
      rw [List.length_range] at hgl
      rcases hM.rn.2 with ⟨_, hx0⟩ | ⟨gn, kn, curn, hvn, hgn, hcn, -⟩
      · exact absurd hx0 (by omega)
      rcases hM.ro.2 with ⟨_, hx0⟩ | ⟨go, ko, curo, hvo, hgo, hco, -⟩
      · exact absurd hx0 (by omega)
      have hr30_2 := hcn
      have hr30_3 := hco
      have HCN := Lib.hid hcn
      have HCO := Lib.hid hco
      have hne2 : gn ≠ w.heap.size := fun e => by
        rw [e, (hK.other w.heap.size hrrl (Ne.symm hmw) (by intro h; cases h) (by intro h; cases h)).trans HRR.out] at hcn
        simp at hcn
      have hne3 : go ≠ w.heap.size := fun e => by
        rw [e, (hK.other w.heap.size hrrl (Ne.symm hmw) (by intro h; cases h) (by intro h; cases h)).trans HRR.out] at hco
        simp at hco
      clear hcn hco hgl hgn hgo
      have hr30_1 := hM.blk
      have hr30_0 := (hK.other w.heap.size hrrl (Ne.symm hmw) (by intro h; cases h) (by intro h; cases h)).trans HRR.out
      have HU30 := Lib.hid (HBW.out.trans (hK.below.mono (Nat.le_refl _)))
      have HRN := Lib.hid hM.rn
      have HRO := Lib.hid hM.ro
      have HVN := Lib.hid hvn
      have HVO := Lib.hid hvo
      rw [hvn, hvo] at hr30_1
      clear hM hK hvn hvo
      have c1_0 := cell_of_row _ _ 0 _ _ _ hr30_1
      have c1_1 := cell_of_row _ _ 1 _ _ _ hr30_1
      have c1_2 := cell_of_row _ _ 2 _ _ _ hr30_1
      simp at c1_0 c1_1 c1_2
      go_upto_region 11 with fail
      have hHr := Lib.hid hr30_0
      have hHi := Lib.hid (show (Try.prog.info? 27).map (·.size) = some (#[.slice (some ⟨gn, 0, none⟩) (grow PL k (List.range k) 0 0).1.length kn, .slice (some ⟨go, 0, none⟩) (grow PL k (List.range k) 0 0).2.length ko] : Array Value).size by kernel_rfl)
      have hHz := Lib.hid (show (#[.slice none 0 0, .slice none 0 0] : Array Value).size = (#[.slice (some ⟨gn, 0, none⟩) (grow PL k (List.range k) 0 0).1.length kn, .slice (some ⟨go, 0, none⟩) (grow PL k (List.range k) 0 0).2.length ko] : Array Value).size from rfl)
      have hHo := Lib.hid (show (#[.slice (some ⟨gn, 0, none⟩) (grow PL k (List.range k) 0 0).1.length kn, .slice (some ⟨go, 0, none⟩) (grow PL k (List.range k) 0 0).2.length ko] : Array Value).all (·.oneCell') = true by simp [Value.oneCell'])
      go_wp2_with (first | (refine Au.wpList_store_row rfl 27 (.tmp 2) (.tmp 30) rfl y30 #[.slice none 0 0, .slice none 0 0] #[.slice (some ⟨gn, 0, none⟩) (grow PL k (List.range k) 0 0).1.length kn, .slice (some ⟨go, 0, none⟩) (grow PL k (List.range k) 0 0).2.length ko] (w.heap.size) 27 hHr.out rfl rfl hHi.out hHz.out hHo.out ?_))
      clear c1_0 c1_1 c1_2
      clear hHr hHi hHz hHo
      have hN := setRow_heap _ (w.heap.size) _ #[.slice (some ⟨gn, 0, none⟩) (grow PL k (List.range k) 0 0).1.length kn, .slice (some ⟨go, 0, none⟩) (grow PL k (List.range k) 0 0).2.length ko] _ _ hr30_0
      have hsz := HU30.out.size
      have HUx := below_setRow (g := w.heap.size) HU30.out (by first | omega | (simp at *; omega)) #[.slice (some ⟨gn, 0, none⟩) (grow PL k (List.range k) 0 0).1.length kn, .slice (some ⟨go, 0, none⟩) (grow PL k (List.range k) 0 0).2.length ko]
      have hO : ∀ kk, kk ≠ w.heap.size → (y30.setRow (w.heap.size) #[.slice (some ⟨gn, 0, none⟩) (grow PL k (List.range k) 0 0).1.length kn, .slice (some ⟨go, 0, none⟩) (grow PL k (List.range k) 0 0).2.length ko]).heap[kk]? = y30.heap[kk]? := fun kk hk => setRow_other _ _ _ _ hk
      obtain ⟨y31, hy31⟩ : ∃ y, y30.setRow (w.heap.size) #[.slice (some ⟨gn, 0, none⟩) (grow PL k (List.range k) 0 0).1.length kn, .slice (some ⟨go, 0, none⟩) (grow PL k (List.range k) 0 0).2.length ko] = y := ⟨_, rfl⟩
      rw [hy31] at hN HUx hO ⊢
      clear hy31 hsz
      have HU31 := Lib.hid HUx
      clear HUx
      have hr31_0 := hN
      have hr31_1 := (hO _ (by omega)).trans hr30_1
      have hr31_2 := (hO _ (by omega)).trans hr30_2
      have hr31_3 := (hO _ (by omega)).trans hr30_3
      clear hN hO
      clear hr30_0 hr30_1 hr30_2 hr30_3 HU30
      have c0_0 := cell_of_row _ _ 0 _ _ _ hr31_0
      have c0_1 := cell_of_row _ _ 1 _ _ _ hr31_0
      simp at c0_0 c0_1
      go_wp2
      exact bodyPost_ret (v := .agg #[.slice (some ⟨gn, 0, none⟩) (grow PL k (List.range k) 0 0).1.length kn, .slice (some ⟨go, 0, none⟩) (grow PL k (List.range k) 0 0).2.length ko]) (by simp [results, Try.results6, go_sem, c0_0, c0_1]) rfl ⟨⟨_, rfl, _, _, rfl, by rw [← HVN.out]; exact own_keep HRN.out (fun q hq => by rw [HVN.out] at hq; injection hq with e; rw [← e]; exact hr31_2.trans HCN.out.symm), by rw [← HVO.out]; exact own_keep HRO.out (fun q hq => by rw [HVO.out] at hq; injection hq with e; rw [← e]; exact hr31_3.trans HCO.out.symm)⟩, HU31.out⟩

end Go.Proofs.Ytoppcnkfgmbpfaa.Tr
