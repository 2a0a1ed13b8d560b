/- Layer 21 (plate): a sheet as a picture, by the document. -/
import Derived.Test.YtcohehekkeeeoaaDoorF36
namespace Go.Proofs.YtcohehekkeeeoaaDoor.Pq
open Go Go.RowKit Go.Proofs.YtcohehekkeeeoaaDoor Go.Proofs.YtcohehekkeeeoaaDoor.Re Go.Proofs.YtcohehekkeeeoaaDoor.Au Go.Proofs.YtcohehekkeeeoaaDoor.Pg Go.Proofs.YtcohehekkeeeoaaDoor.Hv
set_option linter.unusedVariables false
set_option linter.unusedSimpArgs false

set_option maxHeartbeats 4000000 in
set_option maxRecDepth 100000 in
theorem rshow_sheet (W H : Int) (a : Option Addr) (n c : Nat) (L : Nat → Int) (w : World) (h : Fm.Rw 3 w a n L) (hn : n ≤ 5000) : Calls Tryd.prog 16 #[.agg #[.int .i64 W, .int .i64 H, .slice a n c]] w fun e' w' => (∃ v, e' = .returned (.agg #[.int .i64 W, .int .i64 H, v]) ∧ w'.ownsRow w.heap.size 69 3 v n (fl8 (fun j => Pl.shade (Pl.tone (max (L j) 0))) n)) ∧ Below w.heap.size w w' := by
  have HR := Lib.hid h
  clear h
  obtain ⟨G, hG⟩ : ∃ G, G = fun j => Pl.shade (Pl.tone (max (L j) 0)) := ⟨_, rfl⟩
  have HG := Lib.hid hG
  rw [← hG]
  clear hG
  obtain ⟨i0, hi, hz0, hz1, hz2⟩ := info_parts info3
  obtain ⟨B, hB⟩ : ∃ B, B = w.heap.size := ⟨_, rfl⟩
  go_enter Tryd.func16, Tryd.ntmps16
  go_upto_region 1 with fail
  have hr := rows2 w (.cells #[.int .i64 W, .int .i64 H, .slice a n c] 24) (.cells #[.int .i64 0, .int .i64 0, .slice none 0 0] 52)
  have hb := Ve.below_n2 w (.cells #[.int .i64 W, .int .i64 H, .slice a n c] 24) (.cells #[.int .i64 0, .int .i64 0, .slice none 0 0] 52)
  have hs : ((w.alloc (.cells #[.int .i64 W, .int .i64 H, .slice a n c] 24)).alloc (.cells #[.int .i64 0, .int .i64 0, .slice none 0 0] 52)).heap.size = w.heap.size + 2 := by simp
  obtain ⟨y0, hy0⟩ : ∃ y0, (w.alloc (.cells #[.int .i64 W, .int .i64 H, .slice a n c] 24)).alloc (.cells #[.int .i64 0, .int .i64 0, .slice none 0 0] 52) = y0 := ⟨_, rfl⟩
  rw [hy0] at hr hb hs ⊢
  rw [← hB] at hr hs ⊢
  have HBW := Lib.hid hB
  clear hy0
  have HB0 := Lib.hid hb
  clear hb hB
  have c0 := cell_of_row _ _ 0 _ _ _ hr.1
  have c1 := cell_of_row _ _ 1 _ _ _ hr.1
  simp at c0 c1
  have HI := Lib.hid (show (Tryd.prog.info? 52).map (·.size) = some 3 by kernel_rfl)
  have HS := Lib.hid hs
  clear hs
  go_upto_region 2 with fail
  have hs := HS.out
  have hb4 := Ve.below_n1 y0 (.cells #[.int .i64 W, .int .i64 H, .slice none 0 0] 52)
  have hd4 := heap_alloc_last y0 (.cells #[.int .i64 W, .int .i64 H, .slice none 0 0] 52)
  have hs4 : (y0.alloc (.cells #[.int .i64 W, .int .i64 H, .slice none 0 0] 52)).heap.size = y0.heap.size + 1 := by simp
  obtain ⟨y4, hy4⟩ : ∃ y4, y0.alloc (.cells #[.int .i64 W, .int .i64 H, .slice none 0 0] 52) = y4 := ⟨_, rfl⟩
  obtain ⟨d, hdd⟩ : ∃ d, d = y0.heap.size := ⟨_, rfl⟩
  rw [hy4] at hb4 hd4 hs4 ⊢
  rw [← hdd] at hd4 hs4 ⊢
  have HDB := Lib.hid (show d = B + 2 by omega)
  have hdB1 : B + 1 < d := by omega
  have HR4 := Lib.hid ((hb4.block (B + 1) (by omega)).trans hr.2)
  have HX4 := Lib.hid ((hb4.block B (by omega)).trans hr.1)
  have HB4 := Lib.hid (HB0.out.trans (hb4.mono HB0.out.size))
  have HD4 := Lib.hid hd4
  clear hy4 hdd hb4 hd4 c0 c1 hr hs
  go_upto_region 3 with fail
  go_loopw [4] (fun v wr => ∃ (i : Nat) (av : Option Addr) (cv : Nat), i ≤ n ∧ v = .int .i64 i ∧ Hid (wr.heap[d]? = some (.cells #[.int .i64 W, .int .i64 H, .slice av i cv] 52 (0, 0))) ∧ Hid (wr.ownsRow (d + 1) 69 3 (.slice av i cv) i (fl8 G i)) ∧ Hid (Aw (fun k => k < d + 1 ∧ k ≠ d) y4 wr)) (fun v _ => n - (intOf v).toNat)
  case atStart => exact ⟨0, none, 0, by omega, rfl, HD4, Lib.hid (World.ownsRow_nil _ _ _ _), Lib.hid (Aw.refl _ _)⟩
  case round =>
    obtain ⟨i, av, cv, hiK, rfl, HDW, HO, HA⟩ := hrel
    have HBq := Lib.hid (HB4.out.trans (HA.out.below (fun k hk => ⟨by have := HBW.out; have := HDB.out; omega, by have := HBW.out; have := HDB.out; omega⟩) HB4.out.size))
    have hbx : wr.heap[B]? = some (.cells #[.int .i64 W, .int .i64 H, .slice a n c] 24 (0, 0)) := (HA.out.block B ⟨by omega, by omega⟩ (lt_heap HX4.out)).trans HX4.out
    have b0 := cell_of_row _ _ 0 _ _ _ hbx
    have b1 := cell_of_row _ _ 1 _ _ _ hbx
    have b2 := cell_of_row _ _ 2 _ _ _ hbx
    simp at b0 b1 b2
    by_cases hlt : i < n
    · have hlti : (i : Int) < n := by omega
      obtain ⟨sb, so, hsa, e0, e1, e2⟩ := (HR.out.on HBq.out).at3 hlt
      subst hsa
      obtain ⟨x0, hx0⟩ : ∃ x, x = L (i * 3) := ⟨_, rfl⟩
      rw [← hx0] at e0
      obtain ⟨x1, hx1⟩ : ∃ x, x = L (i * 3 + 1) := ⟨_, rfl⟩
      rw [← hx1] at e1
      obtain ⟨x2, hx2⟩ : ∃ x, x = L (i * 3 + 2) := ⟨_, rfl⟩
      rw [← hx2] at e2
      have HX := Lib.hid (show fl8 G (i + 1) = fl8 G i ++ [.int .u8 (Pl.shade (Pl.tone (max x0 0))), .int .u8 (Pl.shade (Pl.tone (max x1 0))), .int .u8 (Pl.shade (Pl.tone (max x2 0)))] by rw [fl8, HG.out]; simp [hx0, hx1, hx2])
      clear hx0 hx1 hx2
      have hsb : sb < d := by
        rcases HR.out with h | ⟨b', o', ha', hb', -⟩
        · omega
        · cases ha'
          have := HBW.out
          omega
      have hs9 := HA.out.size
      rw [hs4] at hs9
      have hdW := HDW.out
      go_upto_region 5 with fail
      refine Ol.way_drew (S := fun y => y.heap[d]? = some (.cells #[.int .i64 W, .int .i64 H, .slice av i cv] 52 (0, 0)) ∧ y.heap[B]? = some (.cells #[.int .i64 W, .int .i64 H, .slice (some ⟨sb, so, none⟩) n c] 24 (0, 0)) ∧ y.cell? ⟨sb, so + i * 3, none⟩ = some (.int .i64 x0) ∧ y.cell? ⟨sb, so + i * 3 + 1, none⟩ = some (.int .i64 x1) ∧ y.cell? ⟨sb, so + i * 3 + 2, none⟩ = some (.int .i64 x2)) (stop := 12) (by kernel_rfl) ⟨hdW, hbx, e0, e1, e2⟩ (fun hS0 => ?_)
      obtain ⟨z0, hz0_⟩ : ∃ y, wr.drew = y := ⟨_, rfl⟩
      have HA0 := Lib.hid (show Aw (fun k => k < d + 1 ∧ k ≠ d) y4 z0 by rw [← hz0_]; exact HA.out.trans (Aw.of (Below.refl _ wr).drew))
      have HO0 := Lib.hid (show z0.ownsRow (d + 1) 69 3 (.slice av i cv) i (fl8 G i) by rw [← hz0_]; exact Ls.own_below HO.out (Below.refl _ wr).drew)
      have hs0 : d + 1 ≤ z0.heap.size := by rw [← hz0_]; have := (Below.refl wr.heap.size wr).drew.size; omega
      rw [hz0_] at hS0 ⊢
      clear hz0_ e0 e1 e2 hs9 b0 b1 b2 hbx hdW
      refine Ol.way_plain (i := 0) (v := ?_) rfl (by kernel_rfl) (by kernel_rfl) (by kernel_rfl) (fun _ _ _ h => h) (by decide) (Or.inl ⟨by kernel_rfl, by (intro wz _; go_simp; try with_reducible rfl)⟩) (Ol.on hS0) ?_
      go_simp
      refine Ol.way_take (i := 1) (v := ?_) rfl (by kernel_rfl) (by kernel_rfl) (by kernel_rfl) (fun _ _ _ h => h) (by decide) (by kernel_rfl) (by kernel_rfl) (Or.inl ⟨by kernel_rfl, by (intro wz hSz; have cq_ := cell_of_row _ _ 2 _ _ _ hSz.1; simp at cq_; go_simp; try with_reducible rfl)⟩) hS0 ?_
      go_simp
      refine Ol.way_plain (i := 2) (v := ?_) rfl (by kernel_rfl) (by kernel_rfl) (by kernel_rfl) (fun _ _ _ h => h) (by decide) (Or.inl ⟨by kernel_rfl, by (intro wz _; go_simp; try with_reducible rfl)⟩) (Ol.on hS0) ?_
      go_simp
      refine Ol.way_take (i := 3) (v := ?_) rfl (by kernel_rfl) (by kernel_rfl) (by kernel_rfl) (fun _ _ _ h => h) (by decide) (by kernel_rfl) (by kernel_rfl) (Or.inl ⟨by kernel_rfl, by (intro wz hSz; have cq_ := cell_of_row _ _ 2 _ _ _ hSz.2.1; simp at cq_; go_simp; try with_reducible rfl)⟩) hS0 ?_
      go_simp
      refine Ol.way_plain (i := 4) (v := ?_) rfl (by kernel_rfl) (by kernel_rfl) (by kernel_rfl) (fun _ _ _ h => h) (by decide) (Or.inl ⟨by kernel_rfl, by (intro wz _; go_simp; try with_reducible rfl)⟩) (Ol.on hS0) ?_
      go_simp
      refine Ol.way_plain (i := 5) (v := ?_) rfl (by kernel_rfl) (by kernel_rfl) (by kernel_rfl) (fun _ _ _ h => h) (by decide) (Or.inl ⟨by kernel_rfl, by (intro wz _; go_simp; try with_reducible rfl)⟩) (Ol.on hS0) ?_
      go_simp
      refine Ol.way_take (i := 6) (v := ?_) rfl (by kernel_rfl) (by kernel_rfl) (by kernel_rfl) (fun _ _ _ h => h) (by decide) (by kernel_rfl) (by kernel_rfl) (Or.inl ⟨by kernel_rfl, by (intro wz hSz; obtain ⟨e0_, e1_, e2_⟩ := hSz.2.2; go_simp; try with_reducible rfl)⟩) hS0 ?_
      go_simp
      refine Ol.way_ready (rs := [7]) (by kernel_rfl) (by simp) ?_
      refine Ol.Each.cons rfl (fun K hK => ?_) Ol.Each.nil
      go_simp
      go_wp2_with (go_at_call 47; refine (rbright_any x0 x1 x2 _).mono ?_; rintro e z1 ⟨rfl, hb1⟩)
      have HA1 := Lib.hid (HA0.out.trans (Aw.of hb1))
      have HO1 := Lib.hid (Ls.own_below HO0.out hb1)
      have hs1 := hb1.size
      refine Ol.keep hK _ _ (⟨(hb1.block _ (lt_heap hS0.1)).trans hS0.1, (hb1.block _ (lt_heap hS0.2.1)).trans hS0.2.1, (hb1.cell (World.block_lt_of_cell? _ _ hS0.2.2.1)).trans hS0.2.2.1, (hb1.cell (World.block_lt_of_cell? _ _ hS0.2.2.2.1)).trans hS0.2.2.2.1, (hb1.cell (World.block_lt_of_cell? _ _ hS0.2.2.2.2)).trans hS0.2.2.2.2⟩) (fun hS1 => ?_)
      clear hK K
      refine Ol.way_ready (rs := [8]) (by kernel_rfl) (by simp) ?_
      refine Ol.Each.cons rfl (fun K hK => ?_) Ol.Each.nil
      go_simp
      go_wp2_with (go_at_call 46; refine (rshow_any _ _ _ _).mono ?_; rintro e z1b ⟨rfl, hb1b⟩)
      have HA1b := Lib.hid (HA1.out.trans (Aw.of hb1b))
      have HO1b := Lib.hid (Ls.own_below HO1.out hb1b)
      have hs1b := hb1b.size
      refine Ol.keep hK _ _ (⟨(hb1b.block _ (lt_heap hS1.1)).trans hS1.1, (hb1b.block _ (lt_heap hS1.2.1)).trans hS1.2.1, (hb1b.cell (World.block_lt_of_cell? _ _ hS1.2.2.1)).trans hS1.2.2.1, (hb1b.cell (World.block_lt_of_cell? _ _ hS1.2.2.2.1)).trans hS1.2.2.2.1, (hb1b.cell (World.block_lt_of_cell? _ _ hS1.2.2.2.2)).trans hS1.2.2.2.2⟩) (fun hS1b => ?_)
      clear hK K
      refine Ol.way_ready (rs := [9]) (by kernel_rfl) (by simp) ?_
      refine Ol.Each.cons rfl (fun K hK => ?_) Ol.Each.nil
      go_simp
      have hb2 := Ve.below_n1 z1b (.cells #[.int .u8 (Pl.shade (Pl.tone (max x0 0))), .int .u8 (Pl.shade (Pl.tone (max x1 0))), .int .u8 (Pl.shade (Pl.tone (max x2 0)))] 69)
      have hN2 := heap_alloc_last z1b (.cells #[.int .u8 (Pl.shade (Pl.tone (max x0 0))), .int .u8 (Pl.shade (Pl.tone (max x1 0))), .int .u8 (Pl.shade (Pl.tone (max x2 0)))] 69)
      obtain ⟨zz2, hz2_⟩ : ∃ y, z1b.alloc (.cells #[.int .u8 (Pl.shade (Pl.tone (max x0 0))), .int .u8 (Pl.shade (Pl.tone (max x1 0))), .int .u8 (Pl.shade (Pl.tone (max x2 0)))] 69) = y := ⟨_, rfl⟩
      rw [hz2_] at hb2 hN2 ⊢
      clear hz2_
      have HA2 := Lib.hid (HA1b.out.trans (Aw.of hb2))
      have HO2 := Lib.hid (Ls.own_below HO1b.out hb2)
      have hs2 := hb2.size
      refine Ol.keep hK _ _ (⟨(hb2.block _ (lt_heap hS1b.1)).trans hS1b.1, (hb2.block _ (lt_heap hS1b.2.1)).trans hS1b.2.1, (hb2.cell (World.block_lt_of_cell? _ _ hS1b.2.2.1)).trans hS1b.2.2.1, (hb2.cell (World.block_lt_of_cell? _ _ hS1b.2.2.2.1)).trans hS1b.2.2.2.1, (hb2.cell (World.block_lt_of_cell? _ _ hS1b.2.2.2.2)).trans hS1b.2.2.2.2⟩) (fun hS2 => ?_)
      clear hK K
      refine Ol.way_ready (rs := [10]) (by kernel_rfl) (by simp) ?_
      refine Ol.Each.cons rfl (fun K hK => ?_) Ol.Each.nil
      refine step_append_lies _ rfl _ _ 42 rfl (d + 1) 69 i0 (.agg #[.int .u8 0, .int .u8 0, .int .u8 0]) 3 3 Tryd.underlying42 hi hz0 hz1 hz2 rfl (by decide) _ _ _ rfl HO2.out ⟨z1b.heap.size, 0, none⟩ 1 1 [.int .u8 (Pl.shade (Pl.tone (max x0 0))), .int .u8 (Pl.shade (Pl.tone (max x1 0))), .int .u8 (Pl.shade (Pl.tone (max x2 0)))] rfl rfl ?c1 ?c2 (by omega) ?c3 ?c4 ?c5 _ rfl ?_
      case c1 => exact World.news_of_block hN2
      case c2 => intro u hu; simp at hu; rcases hu with rfl | rfl | rfl <;> rfl
      case c3 => unfold maxLen; omega
      case c4 => omega
      case c5 => omega
      intro g9 cg z3 hown hgrow hgk hlt2
      have hqo := fun r hr => (HO2.out.lt r hr).1
      have HA3 := Lib.hid (HA2.out.step hgrow (fun r hr => by have := hqo r hr; omega))
      rw [← HX.out] at hown
      have hqn : d ≠ g9 := by rcases hgk with h | h <;> first | omega | (have := hqo _ h; omega)
      have hq3 := (hgrow.block d (lt_heap hS2.1) (fun e => by have := hqo _ e.symm; omega)).trans hS2.1
      have hs3 := hgrow.size
      refine Ol.keep hK _ _ (⟨hq3, (hgrow.block B (lt_heap hS2.2.1) (fun e => by have := hqo _ e.symm; omega)).trans hS2.2.1, (World.cell?_of_block (hgrow.block sb (World.block_lt_of_cell? _ _ hS2.2.2.1) (fun e => by have := hqo _ e.symm; omega))).trans hS2.2.2.1, (World.cell?_of_block (hgrow.block sb (World.block_lt_of_cell? _ _ hS2.2.2.2.1) (fun e => by have := hqo _ e.symm; omega))).trans hS2.2.2.2.1, (World.cell?_of_block (hgrow.block sb (World.block_lt_of_cell? _ _ hS2.2.2.2.2) (fun e => by have := hqo _ e.symm; omega))).trans hS2.2.2.2.2⟩) (fun hS3 => ?_)
      clear hK K
      refine Ol.way_plain (i := 11) (v := ?_) rfl (by kernel_rfl) (by kernel_rfl) (by kernel_rfl) (fun _ _ _ h => h) (by decide) (Or.inl ⟨by kernel_rfl, by (intro wz _; go_simp; try with_reducible rfl)⟩) (Ol.on hS3) ?_
      go_simp
      refine Ol.way_ready (rs := [12]) (by kernel_rfl) (by simp) ?_
      refine Ol.Each.cons rfl (fun K hK => ?_) Ol.Each.nil
      have p0 := cell_of_row _ _ 2 _ _ _ hq3
      simp at p0
      have fz : ∀ j, z3.frozen? ⟨d, j, none⟩ = false := fun j => by simp [World.frozen?, hq3]
      go_simp
      clear fz p0
      have hN : (z3.setCell ⟨d, 2, none⟩ (.slice (some ⟨g9, 0, none⟩) (i + 1) cg)).heap[d]? = some (.cells #[.int .i64 W, .int .i64 H, .slice (some ⟨g9, 0, none⟩) (i + 1) cg] 52 (0, 0)) := heap_setCell_same _ _ 2 _ _ _ hq3
      have HA4 := Lib.hid (HA3.out.set (b := d) (fun h => h.2 rfl) 2 (.slice (some ⟨g9, 0, none⟩) (i + 1) cg))
      have HO4 := Lib.hid (own_via (w' := (z3.setCell ⟨d, 2, none⟩ (.slice (some ⟨g9, 0, none⟩) (i + 1) cg))) hown (fun r hr => Below.heap_setCell _ _ _ _ (by simp [Value.ownBlock] at hr; show r ≠ d; omega)))
      refine Ol.past hK (by kernel_rfl) _ _ ?_
      clear hK K
      refine Ol.way_done (by kernel_rfl) ?_ _
      go_wp2
      go_roundw
      case rel => exact ⟨i + 1, _, _, by omega, by go_num, Lib.hid hN, HO4, HA4⟩
      case measure => simp [intOf]; omega
    · have hge : ¬ (i : Int) < n := by omega
      have hin : i = n := by omega
      rw [hin] at HDW HO hge ⊢
      have HOF := Lib.hid (ownsRow_le_ HO.out (show w.heap.size ≤ d + 1 by have := HBW.out; have := HDB.out; omega))
      have HRq := Lib.hid ((HA.out.block (B + 1) ⟨by omega, by omega⟩ (lt_heap HR4.out)).trans HR4.out)
      have t0 := cell_of_row _ _ 0 _ _ _ HDW.out
      have t1 := cell_of_row _ _ 1 _ _ _ HDW.out
      have t2 := cell_of_row _ _ 2 _ _ _ HDW.out
      simp at t0 t1 t2
      have HOW := Lib.hid (show ∀ q, (Value.slice av n cv).ownBlock = some q → q ≠ B + 1 from fun q hq => by have := (HO.out.lt q hq).1; omega)
      have s0 := cell_of_row _ _ 0 _ _ _ HRq.out
      have s1 := cell_of_row _ _ 1 _ _ _ HRq.out
      have s2 := cell_of_row _ _ 2 _ _ _ HRq.out
      simp at s0 s1 s2
      have hf : ∀ j, wr.frozen? ⟨B + 1, j, none⟩ = false := fun j => by simp [World.frozen?, HRq.out]
      have hf0 := hf 0
      have hf1 := hf 1
      have hf2 := hf 2
      clear hf
      go_wp2
      have hN := setRow_heap wr (B + 1) _ #[.int .i64 W, .int .i64 H, .slice av n cv] _ _ HRq.out
      have HBN := Lib.hid (below_setRow (g := B + 1) HBq.out (by have := HBW.out; omega) #[.int .i64 W, .int .i64 H, .slice av n cv])
      rw [part3r HRq.out (.int .i64 W) (.int .i64 H) (.slice av n cv)]
      exact bodyPost_ret (v := .agg #[.int .i64 W, .int .i64 H, .slice av n cv]) (results_row (t := 52) Tryd.results16 rfl hN Tryd.underlying52 rfl HI.out) rfl ⟨⟨_, rfl, own_via HOF.out (fun q hq => setRow_other _ _ _ _ (HOW.out q hq))⟩, HBN.out⟩

end Go.Proofs.YtcohehekkeeeoaaDoor.Pq
