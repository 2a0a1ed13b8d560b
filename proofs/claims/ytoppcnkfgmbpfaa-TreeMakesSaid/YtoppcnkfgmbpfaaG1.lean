/- Trees: how deep the document's tree is. -/
import Derived.Test.YtoppcnkfgmbpfaaE51
namespace Go.Proofs.Ytoppcnkfgmbpfaa.Tr
open Go.RowKit Go.Proofs.Ytoppcnkfgmbpfaa Go.Proofs.Ytoppcnkfgmbpfaa.Wa Go.Proofs.Ytoppcnkfgmbpfaa.Ve Go.Proofs.Ytoppcnkfgmbpfaa.Au Go.Proofs.Ytoppcnkfgmbpfaa.Bx
set_option linter.unusedVariables false
set_option linter.unusedSimpArgs false

set_option maxHeartbeats 2000000 in
set_option maxRecDepth 100000 in
theorem rdeep_nil (az : Option Addr) (kz : Nat) (ao : Option Addr) (no ko : Nat) (w : World)  : Calls Try.prog 10 #[.agg #[.slice az 0 kz, .slice ao no ko], .int .i64 0] w fun e' w' => e' = .returned (.int .i64 0) ∧ Below w.heap.size w w' := by
  go_enter Try.func10, Try.ntmps10
  go_upto_region 1 with fail
  have hR := Au.rows1 w (.cells #[.slice az 0 kz, .slice ao no ko] 33)
  have HUx := below_n1 w (.cells #[.slice az 0 kz, .slice ao no ko] 33)
  obtain ⟨y0, hy0⟩ : ∃ y0, w.alloc (.cells #[.slice az 0 kz, .slice ao no ko] 33) = y0 := ⟨_, rfl⟩
  rw [hy0] at hR HUx ⊢
  clear hy0
  have HU0 := Lib.hid HUx
  clear HUx
  have hr0_0 := hR
  clear hR
  have c0_0 := cell_of_row _ _ 0 _ _ _ hr0_0
  have c0_1 := cell_of_row _ _ 1 _ _ _ hr0_0
  simp at c0_0 c0_1
  go_wp2
  go_ret
  exact ⟨rfl, HU0.out⟩


theorem height_le (PL : Nat → Int) : ∀ f l, height PL f l ≤ (f : Int) + 1
  | 0, _ => by simp [height]
  | f + 1, l => by
    unfold height
    split
    · omega
    · have h1 := height_le PL f (splitA PL l)
      have h2 := height_le PL f (splitB PL l)
      omega

set_option maxHeartbeats 4000000 in
set_option maxRecDepth 100000 in
theorem rdeep_f (PL : Nat → Int) (NS : List Nd) (b gn cap : Nat) (ao : Option Addr) (no ko : Nat) (hNS : NS.length ≤ 100000) : ∀ (f : Nat), f ≤ 1000 → ∀ (l : List Nat) (a o : Nat), 1 ≤ l.length → l.length ≤ f →
    (∀ i, i < (grow PL f l a o).1.length → NS[a + i]? = (grow PL f l a o).1[i]?) → ∀ w : World, w.ownsRow b 53 16 (.slice (some ⟨gn, 0, none⟩) NS.length cap) NS.length (flatNd PL NS) →
    Calls Try.prog 10 #[.agg #[.slice (some ⟨gn, 0, none⟩) NS.length cap, .slice ao no ko], .int .i64 (a : Int)] w fun e w' => e = .returned (.int .i64 (height PL f l)) ∧ Below w.heap.size w w' := by
  intro f
  induction f with
  | zero => intro hf l a o h1 h2; omega
  | succ f ih =>

    intro hf l a o h1 h2 hseg w hr
    have HIH := Lib.hid (ih (by omega))
    clear ih
    have HR := Lib.hid hr
    obtain ⟨len, hlen⟩ : ∃ n, n = NS.length := ⟨_, rfl⟩
    have hgn := (hr.lt gn rfl).2
    rcases hr.2 with ⟨hx, -⟩ | ⟨g_, k_, curn, hform, hgb, hcur, -⟩
    · cases hx
    have hg_ : g_ = gn := by injection hform with e1 e2 e3; injection e1 with e1; injection e1 with e1; exact e1.symm
    subst hg_
    have HCU := Lib.hid hcur
    have HCN := Lib.hid (show ∀ (i : Nat) (m : Nd), NS[i]? = some m → ∀ j v, (ncs PL m)[j]? = some v → curn[i * 16 + j]? = some v from fun i m hm j v hv => by
      have hj : j < 16 := by
        rcases Nat.lt_or_ge j 16 with h1 | h1
        · exact h1
        · rw [List.getElem?_eq_none (by rw [ncs_len]; exact h1)] at hv; cases hv
      have hi : i < NS.length := by
        rcases Nat.lt_or_ge i NS.length with h1 | h1
        · exact h1
        · rw [List.getElem?_eq_none h1] at hm; cases hm
      have a1 := HR.out.cellAt (i * 16 + j) (by omega)
      rw [flat_at PL NS i m hm j v hv, cell_of_row _ _ _ _ _ _ hcur] at a1
      exact a1)
    have hHL1 := height_le PL f (splitA PL l)
    have hHL2 := height_le PL f (splitB PL l)
    have hHP1 := height_pos PL f (splitA PL l)
    have hHP2 := height_pos PL f (splitB PL l)
    by_cases h4 : l.length ≤ 4
    · have hs0 := hseg 0 (by rw [grow_leaf _ _ _ _ _ h4]; exact Nat.zero_lt_one)
      rw [grow_leaf _ _ _ _ _ h4, Nat.add_zero] at hs0
      have hal : a < NS.length := by
        rcases Nat.lt_or_ge a NS.length with h | h
        · exact h
        · rw [List.getElem?_eq_none h] at hs0; cases hs0
      have hcc := HCN.out a _ hs0 15 (.int .i64 (l.length : Int)) rfl
      have hh : height PL (f + 1) l = 1 := by rw [height, if_pos h4]
      rw [hh]
      obtain ⟨bl, hbl⟩ : ∃ x, x = l.length := ⟨_, rfl⟩
      rw [← hbl] at hcc
      have hbp : (0 : Int) < (bl : Int) := by omega
      have hai : (a : Int) < (len : Int) := by omega
      have hl0 : ((len : Int) == 0) = false := by simp; omega
      rw [← hlen]
      have cc := (cell_of_row _ _ _ _ _ _ hcur).trans hcc
      clear hseg hs0 hcc hh hr hform hcur hlen hbl h4 h1 h2 hHL1 hHL2 hHP1 hHP2 hal hNS
      go_enter Try.func10, Try.ntmps10
      go_upto_region 1 with fail
      have hR := Au.rows1 w (.cells #[.slice (some ⟨g_, 0, none⟩) len cap, .slice ao no ko] 33)
      have HUx := below_n1 w (.cells #[.slice (some ⟨g_, 0, none⟩) len cap, .slice ao no ko] 33)
      obtain ⟨y0, hy0⟩ : ∃ y0, w.alloc (.cells #[.slice (some ⟨g_, 0, none⟩) len cap, .slice ao no ko] 33) = y0 := ⟨_, rfl⟩
      rw [hy0] at hR HUx ⊢
      clear hy0
      have HU0 := Lib.hid HUx
      clear HUx
      have hr0_0 := hR
      clear hR
      have cn := (HU0.out.cell (p := ⟨g_, a * 16 + 15, none⟩) hgn).trans cc
      have c0_0 := cell_of_row _ _ 0 _ _ _ hr0_0
      have c0_1 := cell_of_row _ _ 1 _ _ _ hr0_0
      simp at c0_0 c0_1
      go_wp2_with fail
      go_ret
      exact ⟨rfl, HU0.out⟩
    · have hcut := isCut PL l (by omega)
      have hs : (splitA PL l).length + (splitB PL l).length = l.length := hcut.sum
      have ha1 : 1 ≤ (splitA PL l).length := hcut.a1
      have hb1 : 1 ≤ (splitB PL l).length := hcut.b1
      obtain ⟨GA, hGA⟩ : ∃ x, x = (grow PL f (splitA PL l) (a + 1) o).1 := ⟨_, rfl⟩
      obtain ⟨o2, ho2⟩ : ∃ x, x = o + (grow PL f (splitA PL l) (a + 1) o).2.length := ⟨_, rfl⟩
      rw [grow_node _ _ _ _ _ h4, ← hGA, ← ho2] at hseg
      obtain ⟨GB, hGB⟩ : ∃ x, x = (grow PL f (splitB PL l) (a + 1 + GA.length) o2).1 := ⟨_, rfl⟩
      rw [← hGB] at hseg
      have hga := grow_len PL f (splitA PL l) (a + 1) o ha1 (by omega)
      have hgb2 := grow_len PL f (splitB PL l) (a + 1 + GA.length) o2 hb1 (by omega)
      rw [← hGA] at hga
      rw [← hGB] at hgb2
      have hs0 := hseg 0 (by simp)
      rw [Nat.add_zero] at hs0
      have hal : a < NS.length := by
        rcases Nat.lt_or_ge a NS.length with h | h
        · exact h
        · rw [List.getElem?_eq_none h] at hs0; cases hs0
      have hcc := HCN.out a _ hs0 15 (.int .i64 0) rfl
      have hcL := HCN.out a _ hs0 12 (.int .i64 ((a + 1 : Nat) : Int)) rfl
      have hcR := HCN.out a _ hs0 13 (.int .i64 ((a + 1 + GA.length : Nat) : Int)) rfl
      have hIA := HIH.out (splitA PL l) (a + 1) o ha1 (by omega) (fun i hi => by
        rw [← hGA] at hi ⊢
        have h := hseg (i + 1) (by simp; omega)
        rw [show a + 1 + i = a + (i + 1) by omega, h]
        show (GA ++ GB)[i]? = _
        exact List.getElem?_append_left hi)
      have hIB := HIH.out (splitB PL l) (a + 1 + GA.length) o2 hb1 (by omega) (fun i hi => by
        rw [← hGB] at hi ⊢
        have h := hseg (GA.length + i + 1) (by simp; omega)
        rw [show a + 1 + GA.length + i = a + (GA.length + i + 1) by omega, h]
        show (GA ++ GB)[GA.length + i]? = _
        rw [List.getElem?_append_right (by omega), show GA.length + i - GA.length = i by omega])
      have hh : height PL (f + 1) l = max (height PL f (splitA PL l)) (height PL f (splitB PL l)) + 1 := by rw [height, if_neg h4]
      rw [hh]
      obtain ⟨da, hda⟩ : ∃ x, x = height PL f (splitA PL l) := ⟨_, rfl⟩
      obtain ⟨db, hdb⟩ : ∃ x, x = height PL f (splitB PL l) := ⟨_, rfl⟩
      rw [← hda] at hIA hHL1 hHP1
      rw [← hdb] at hIB hHL2 hHP2
      rw [← hda, ← hdb]
      obtain ⟨gn2, hgn2⟩ : ∃ x, x = GA.length := ⟨_, rfl⟩
      rw [← hgn2] at hcR hIB
      have hai : (a : Int) < (len : Int) := by omega
      have hl0 : ((len : Int) == 0) = false := by simp; omega
      rw [← hlen] at hIA hIB ⊢
      have HIA := Lib.hid (fun (W : World) (hb : Below w.heap.size w W) => hIA W (by rw [hlen]; exact own_keep HR.out fun q hq => hb.block q (HR.out.lt q hq).2))
      have HIB := Lib.hid (fun (W : World) (hb : Below w.heap.size w W) => hIB W (by rw [hlen]; exact own_keep HR.out fun q hq => hb.block q (HR.out.lt q hq).2))
      have HL12 := Lib.hid hcL
      have HL13 := Lib.hid hcR
      have cc := (cell_of_row _ _ _ _ _ _ hcur).trans hcc
      clear hseg hs0 hcc hh hr hform hcur hlen h4 h1 h2 hal hNS hIA hIB hcL hcR hga hgb2 hs ha1 hb1 hcut hGA hGB hda hdb hgn2 ho2
      go_enter Try.func10, Try.ntmps10
      go_upto_region 1 with fail
      have hR := Au.rows1 w (.cells #[.slice (some ⟨g_, 0, none⟩) len cap, .slice ao no ko] 33)
      have HUx := below_n1 w (.cells #[.slice (some ⟨g_, 0, none⟩) len cap, .slice ao no ko] 33)
      obtain ⟨y0, hy0⟩ : ∃ y0, w.alloc (.cells #[.slice (some ⟨g_, 0, none⟩) len cap, .slice ao no ko] 33) = y0 := ⟨_, rfl⟩
      rw [hy0] at hR HUx ⊢
      clear hy0
      have HU0 := Lib.hid HUx
      clear HUx
      have hr0_0 := hR
      clear hR
      have cn := (HU0.out.cell (p := ⟨g_, a * 16 + 15, none⟩) hgn).trans cc
      have hr0_1 := (HU0.out.block g_ hgn).trans HCU.out
      have c0_0 := cell_of_row _ _ 0 _ _ _ hr0_0
      have c0_1 := cell_of_row _ _ 1 _ _ _ hr0_0
      simp at c0_0 c0_1
      go_upto_region 5 with fail
      clear cn cc
      clear c0_0 c0_1
      refine wp_region_held_drew (S := fun y => y.heap[w.heap.size]? = some (.cells #[.slice (some ⟨g_, 0, none⟩) len cap, .slice ao no ko] 33 (0, 0)) ∧ y.heap[g_]? = some (.cells curn 53 (0, 0))) (by kernel_rfl) (⟨hr0_0, hr0_1⟩) (fun hS0 => ?_)
      obtain ⟨y1, hy1⟩ : ∃ y, y0.drew = y := ⟨_, rfl⟩
      have HU1 := Lib.hid (show Below w.heap.size w y1 by rw [← hy1]; exact HU0.out.drew)
      have hr1_0 : y1.heap[w.heap.size]? = some (.cells #[.slice (some ⟨g_, 0, none⟩) len cap, .slice ao no ko] 33 (0, 0)) := by rw [← hy1]; exact hr0_0
      have hr1_1 : y1.heap[g_]? = some (.cells curn 53 (0, 0)) := by rw [← hy1]; exact hr0_1
      rw [hy1] at hS0 ⊢
      clear hy1
      refine wpAnyH_take (i := 0) (v := ?_) rfl (by kernel_rfl) (by kernel_rfl) (by kernel_rfl) (fun _ _ _ h => h) (Or.inl ⟨by kernel_rfl, by (intro wz hSz; have c0_0 := cell_of_row _ _ 0 _ _ _ hSz.1; have c0_1 := cell_of_row _ _ 1 _ _ _ hSz.1; simp at c0_0 c0_1; have q12z := (cell_of_row _ _ (a * 16 + 12) _ _ _ hSz.2).trans HL12.out; have q13z := (cell_of_row _ _ (a * 16 + 13) _ _ _ hSz.2).trans HL13.out; go_simp; try with_reducible rfl)⟩) hS0 ?_
      go_simp
      refine wpAnyH_take (i := 1) (v := ?_) rfl (by kernel_rfl) (by kernel_rfl) (by kernel_rfl) (fun _ _ _ h => h) (Or.inl ⟨by kernel_rfl, by (intro wz hSz; go_simp; try with_reducible rfl)⟩) hS0 ?_
      go_simp
      refine wpAnyH_take (i := 2) (v := ?_) rfl (by kernel_rfl) (by kernel_rfl) (by kernel_rfl) (fun _ _ _ h => h) (Or.inl ⟨by kernel_rfl, by (intro wz hSz; have c0_0 := cell_of_row _ _ 0 _ _ _ hSz.1; have c0_1 := cell_of_row _ _ 1 _ _ _ hSz.1; simp at c0_0 c0_1; have q12z := (cell_of_row _ _ (a * 16 + 12) _ _ _ hSz.2).trans HL12.out; have q13z := (cell_of_row _ _ (a * 16 + 13) _ _ _ hSz.2).trans HL13.out; go_simp; try with_reducible rfl)⟩) hS0 ?_
      go_simp
      refine wpAnyH_take (i := 3) (v := ?_) rfl (by kernel_rfl) (by kernel_rfl) (by kernel_rfl) (fun _ _ _ h => h) (Or.inl ⟨by kernel_rfl, by (intro wz hSz; go_simp; try with_reducible rfl)⟩) hS0 ?_
      go_simp
      refine wpAnyH_take (i := 4) (v := ?_) rfl (by kernel_rfl) (by kernel_rfl) (by kernel_rfl) (fun _ _ _ h => h) (Or.inl ⟨by kernel_rfl, by (intro wz hSz; go_simp; try with_reducible rfl)⟩) hS0 ?_
      go_simp
      refine wpAnyH_take (i := 5) (v := ?_) rfl (by kernel_rfl) (by kernel_rfl) (by kernel_rfl) (fun _ _ _ h => h) (Or.inl ⟨by kernel_rfl, by (intro wz hSz; go_simp; try with_reducible rfl)⟩) hS0 ?_
      go_simp
      refine wpAnyH_take (i := 6) (v := ?_) rfl (by kernel_rfl) (by kernel_rfl) (by kernel_rfl) (fun _ _ _ h => h) (Or.inl ⟨by kernel_rfl, by (intro wz hSz; have c0_0 := cell_of_row _ _ 0 _ _ _ hSz.1; have c0_1 := cell_of_row _ _ 1 _ _ _ hSz.1; simp at c0_0 c0_1; have q12z := (cell_of_row _ _ (a * 16 + 12) _ _ _ hSz.2).trans HL12.out; have q13z := (cell_of_row _ _ (a * 16 + 13) _ _ _ hSz.2).trans HL13.out; go_simp; try with_reducible rfl)⟩) hS0 ?_
      go_simp
      refine wpAnyH_take (i := 8) (v := ?_) rfl (by kernel_rfl) (by kernel_rfl) (by kernel_rfl) (fun _ _ _ h => h) (Or.inl ⟨by kernel_rfl, by (intro wz hSz; have c0_0 := cell_of_row _ _ 0 _ _ _ hSz.1; have c0_1 := cell_of_row _ _ 1 _ _ _ hSz.1; simp at c0_0 c0_1; have q12z := (cell_of_row _ _ (a * 16 + 12) _ _ _ hSz.2).trans HL12.out; have q13z := (cell_of_row _ _ (a * 16 + 13) _ _ _ hSz.2).trans HL13.out; go_simp; try with_reducible rfl)⟩) hS0 ?_
      go_simp
      refine wpAnyH_take (i := 9) (v := ?_) rfl (by kernel_rfl) (by kernel_rfl) (by kernel_rfl) (fun _ _ _ h => h) (Or.inl ⟨by kernel_rfl, by (intro wz hSz; go_simp; try with_reducible rfl)⟩) hS0 ?_
      go_simp
      refine wpAnyH_take (i := 10) (v := ?_) rfl (by kernel_rfl) (by kernel_rfl) (by kernel_rfl) (fun _ _ _ h => h) (Or.inl ⟨by kernel_rfl, by (intro wz hSz; have c0_0 := cell_of_row _ _ 0 _ _ _ hSz.1; have c0_1 := cell_of_row _ _ 1 _ _ _ hSz.1; simp at c0_0 c0_1; have q12z := (cell_of_row _ _ (a * 16 + 12) _ _ _ hSz.2).trans HL12.out; have q13z := (cell_of_row _ _ (a * 16 + 13) _ _ _ hSz.2).trans HL13.out; go_simp; try with_reducible rfl)⟩) hS0 ?_
      go_simp
      refine wpAnyH_take (i := 11) (v := ?_) rfl (by kernel_rfl) (by kernel_rfl) (by kernel_rfl) (fun _ _ _ h => h) (Or.inl ⟨by kernel_rfl, by (intro wz hSz; go_simp; try with_reducible rfl)⟩) hS0 ?_
      go_simp
      refine wpAnyH_take (i := 12) (v := ?_) rfl (by kernel_rfl) (by kernel_rfl) (by kernel_rfl) (fun _ _ _ h => h) (Or.inl ⟨by kernel_rfl, by (intro wz hSz; go_simp; try with_reducible rfl)⟩) hS0 ?_
      go_simp
      refine wpAnyH_take (i := 13) (v := ?_) rfl (by kernel_rfl) (by kernel_rfl) (by kernel_rfl) (fun _ _ _ h => h) (Or.inl ⟨by kernel_rfl, by (intro wz hSz; go_simp; try with_reducible rfl)⟩) hS0 ?_
      go_simp
      refine wpAnyH_take (i := 14) (v := ?_) rfl (by kernel_rfl) (by kernel_rfl) (by kernel_rfl) (fun _ _ _ h => h) (Or.inl ⟨by kernel_rfl, by (intro wz hSz; have c0_0 := cell_of_row _ _ 0 _ _ _ hSz.1; have c0_1 := cell_of_row _ _ 1 _ _ _ hSz.1; simp at c0_0 c0_1; have q12z := (cell_of_row _ _ (a * 16 + 12) _ _ _ hSz.2).trans HL12.out; have q13z := (cell_of_row _ _ (a * 16 + 13) _ _ _ hSz.2).trans HL13.out; go_simp; try with_reducible rfl)⟩) hS0 ?_
      go_simp
      refine wpAnyH_ready (rs := [7]) (by kernel_rfl) (by simp) ?_
      refine AllReadyH.cons rfl (fun K hK => ?_) AllReadyH.nil
      go_simp
      go_wp2_with (go_at_call 10; refine (HIA.out _ HU1.out).mono ?_; rintro e y2 ⟨rfl, hb2⟩)
      have hr2_0 := (hb2.block _ (lt_heap hr1_0)).trans hr1_0
      have hr2_1 := (hb2.block _ (lt_heap hr1_1)).trans hr1_1
      have HU2 := Lib.hid (HU1.out.trans (hb2.mono HU1.out.size))
      refine hK.out _ _ (⟨(hb2.block _ (lt_heap hS0.1)).trans hS0.1, (hb2.block _ (lt_heap hS0.2)).trans hS0.2⟩) (fun hS2c => ?_)
      clear hK K
      refine wpAnyH_ready (rs := [15]) (by kernel_rfl) (by simp) ?_
      refine AllReadyH.cons rfl (fun K hK => ?_) AllReadyH.nil
      go_simp
      go_wp2_with (go_at_call 10; refine (HIB.out _ HU2.out).mono ?_; rintro e y3 ⟨rfl, hb3⟩)
      have hr3_0 := (hb3.block _ (lt_heap hr2_0)).trans hr2_0
      have hr3_1 := (hb3.block _ (lt_heap hr2_1)).trans hr2_1
      have HU3 := Lib.hid (HU2.out.trans (hb3.mono HU2.out.size))
      refine hK.out _ _ (⟨(hb3.block _ (lt_heap hS2c.1)).trans hS2c.1, (hb3.block _ (lt_heap hS2c.2)).trans hS2c.2⟩) (fun hS3c => ?_)
      clear hK K
      refine wpAnyH_take (i := 16) (v := ?_) rfl (by kernel_rfl) (by kernel_rfl) (by kernel_rfl) (fun _ _ _ h => h) (Or.inl ⟨by kernel_rfl, by (intro wz hSz; go_simp; try with_reducible rfl)⟩) hS3c ?_
      go_simp
      refine wpAnyH_take (i := 17) (v := ?_) rfl (by kernel_rfl) (by kernel_rfl) (by kernel_rfl) (fun _ _ _ h => h) (Or.inl ⟨by kernel_rfl, by (intro wz hSz; go_simp; try with_reducible rfl)⟩) hS3c ?_
      go_simp
      refine wpAnyH_done (by kernel_rfl) ?_ _
      by_cases hgt : db < da
      · go_wp2_with fail
        go_ret
        exact ⟨by rw [show max da db + 1 = da + 1 by omega]; rfl, HU3.out⟩
      · go_wp2_with fail
        go_ret
        exact ⟨by rw [show max da db + 1 = db + 1 by omega]; rfl, HU3.out⟩

end Go.Proofs.Ytoppcnkfgmbpfaa.Tr
