/- Layer 21 (plate): depths as a picture, by the document. -/
import Derived.Test.YtcohehekkeeeoaaDoorF36
namespace Go.Proofs.YtcohehekkeeeoaaDoor.Pq
open Go Go.RowKit Go.Proofs.YtcohehekkeeeoaaDoor Go.Proofs.YtcohehekkeeeoaaDoor.Re Go.Proofs.YtcohehekkeeeoaaDoor.Au Go.Proofs.YtcohehekkeeeoaaDoor.Pg Go.Proofs.YtcohehekkeeeoaaDoor.Hv Go.Proofs.YtcohehekkeeeoaaDoor.Wa
set_option linter.unusedVariables false
set_option linter.unusedSimpArgs false

/-- how near a pixel is, as light: nothing, where no shape is seen -/
def near (d s : Int) : Int := if s < 0 then 0 else Pl.div 65536 (Pl.add 65536 (max d 0))

set_option maxHeartbeats 4000000 in
set_option maxRecDepth 100000 in
theorem rdepths_any (W H : Int) (al ad an ab ax af : Option Addr) (nl n nn nb nf cl cd cn cb cx cf : Nat) (D S : Nat → Int) (w : World) (h : Fm.Rw 1 w ad n D) (h2 : Fm.Rw 1 w ax n S) (hn : n ≤ 5000) : Calls Tryd.prog 18 #[.agg #[.int .i64 W, .int .i64 H, .slice al nl cl, .slice ad n cd, .slice an nn cn, .slice ab nb cb, .slice ax n cx, .slice af nf cf]] w fun e' w' => (∃ v, e' = .returned (.agg #[.int .i64 W, .int .i64 H, v]) ∧ w'.ownsRow w.heap.size 69 3 v n (fl8 (fun j => Pl.shade (near (D (j / 3)) (S (j / 3)))) n)) ∧ Below w.heap.size w w' := by
  have HR := Lib.hid h
  have HR2 := Lib.hid h2
  clear h h2
  obtain ⟨G, hG⟩ : ∃ G, G = fun j => Pl.shade (near (D (j / 3)) (S (j / 3))) := ⟨_, rfl⟩
  have HG := Lib.hid hG
  rw [← hG]
  clear hG
  obtain ⟨i0, hi, hz0, hz1, hz2⟩ := info_parts info3
  obtain ⟨B, hB⟩ : ∃ B, B = w.heap.size := ⟨_, rfl⟩
  go_enter Tryd.func18, Tryd.ntmps18
  go_upto_region 1 with fail
  have hr := rows2 w (.cells #[.int .i64 W, .int .i64 H, .slice al nl cl, .slice ad n cd, .slice an nn cn, .slice ab nb cb, .slice ax n cx, .slice af nf cf] 29) (.cells #[.int .i64 0, .int .i64 0, .slice none 0 0] 52)
  have hb := Ve.below_n2 w (.cells #[.int .i64 W, .int .i64 H, .slice al nl cl, .slice ad n cd, .slice an nn cn, .slice ab nb cb, .slice ax n cx, .slice af nf cf] 29) (.cells #[.int .i64 0, .int .i64 0, .slice none 0 0] 52)
  have hs : ((w.alloc (.cells #[.int .i64 W, .int .i64 H, .slice al nl cl, .slice ad n cd, .slice an nn cn, .slice ab nb cb, .slice ax n cx, .slice af nf cf] 29)).alloc (.cells #[.int .i64 0, .int .i64 0, .slice none 0 0] 52)).heap.size = w.heap.size + 2 := by simp
  obtain ⟨y0, hy0⟩ : ∃ y0, (w.alloc (.cells #[.int .i64 W, .int .i64 H, .slice al nl cl, .slice ad n cd, .slice an nn cn, .slice ab nb cb, .slice ax n cx, .slice af nf cf] 29)).alloc (.cells #[.int .i64 0, .int .i64 0, .slice none 0 0] 52) = y0 := ⟨_, rfl⟩
  rw [hy0] at hr hb hs ⊢
  rw [← hB] at hr hs ⊢
  have HBW := Lib.hid hB
  clear hy0
  have HB0 := Lib.hid hb
  clear hb hB
  have c0 := cell_of_row _ _ 0 _ _ _ hr.1
  have c1 := cell_of_row _ _ 1 _ _ _ hr.1
  simp at c0 c1
  have HI := Lib.hid (show (Tryd.prog.info? 52).map (·.size) = some 3 by kernel_rfl)
  have HS := Lib.hid hs
  clear hs
  go_upto_region 2 with fail
  have hs := HS.out
  have hb4 := Ve.below_n1 y0 (.cells #[.int .i64 W, .int .i64 H, .slice none 0 0] 52)
  have hd4 := heap_alloc_last y0 (.cells #[.int .i64 W, .int .i64 H, .slice none 0 0] 52)
  have hs4 : (y0.alloc (.cells #[.int .i64 W, .int .i64 H, .slice none 0 0] 52)).heap.size = y0.heap.size + 1 := by simp
  obtain ⟨y4, hy4⟩ : ∃ y4, y0.alloc (.cells #[.int .i64 W, .int .i64 H, .slice none 0 0] 52) = y4 := ⟨_, rfl⟩
  obtain ⟨d, hdd⟩ : ∃ d, d = y0.heap.size := ⟨_, rfl⟩
  rw [hy4] at hb4 hd4 hs4 ⊢
  rw [← hdd] at hd4 hs4 ⊢
  have HDB := Lib.hid (show d = B + 2 by omega)
  have hdB1 : B + 1 < d := by omega
  have HR4 := Lib.hid ((hb4.block (B + 1) (by omega)).trans hr.2)
  have HX4 := Lib.hid ((hb4.block B (by omega)).trans hr.1)
  have HB4 := Lib.hid (HB0.out.trans (hb4.mono HB0.out.size))
  have HD4 := Lib.hid hd4
  clear hy4 hdd hb4 hd4 c0 c1 hr hs
  go_upto_region 3 with fail
  go_loopw [4] (fun v wr => ∃ (i : Nat) (av : Option Addr) (cv : Nat), i ≤ n ∧ v = .int .i64 i ∧ Hid (wr.heap[d]? = some (.cells #[.int .i64 W, .int .i64 H, .slice av i cv] 52 (0, 0))) ∧ Hid (wr.ownsRow (d + 1) 69 3 (.slice av i cv) i (fl8 G i)) ∧ Hid (Aw (fun k => k < d + 1 ∧ k ≠ d) y4 wr)) (fun v _ => n - (intOf v).toNat)
  case atStart => exact ⟨0, none, 0, by omega, rfl, HD4, Lib.hid (World.ownsRow_nil _ _ _ _), Lib.hid (Aw.refl _ _)⟩
  case round =>
    obtain ⟨i, av, cv, hiK, rfl, HDW, HO, HA⟩ := hrel
    have HBq := Lib.hid (HB4.out.trans (HA.out.below (fun k hk => ⟨by have := HBW.out; have := HDB.out; omega, by have := HBW.out; have := HDB.out; omega⟩) HB4.out.size))
    have hbx : wr.heap[B]? = some (.cells #[.int .i64 W, .int .i64 H, .slice al nl cl, .slice ad n cd, .slice an nn cn, .slice ab nb cb, .slice ax n cx, .slice af nf cf] 29 (0, 0)) := (HA.out.block B ⟨by omega, by omega⟩ (lt_heap HX4.out)).trans HX4.out
    have b0 := cell_of_row _ _ 0 _ _ _ hbx
    have b1 := cell_of_row _ _ 1 _ _ _ hbx
    have b3 := cell_of_row _ _ 3 _ _ _ hbx
    have b6 := cell_of_row _ _ 6 _ _ _ hbx
    simp at b0 b1 b3 b6
    by_cases hlt : i < n
    · have hlti : (i : Int) < n := by omega
      obtain ⟨sb, so, hsa, e0⟩ := (HR.out.on HBq.out).at1 hlt
      subst hsa
      obtain ⟨sb2, so2, hsa2, f0⟩ := (HR2.out.on HBq.out).at1 hlt
      subst hsa2
      obtain ⟨x0, hx0⟩ : ∃ x, x = D i := ⟨_, rfl⟩
      rw [← hx0] at e0
      obtain ⟨s0, hs0⟩ : ∃ x, x = S i := ⟨_, rfl⟩
      rw [← hs0] at f0
      have HXX := Lib.hid (show fl8 G (i + 1) = fl8 G i ++ [.int .u8 (Pl.shade (near x0 s0)), .int .u8 (Pl.shade (near x0 s0)), .int .u8 (Pl.shade (near x0 s0))] by rw [fl8, HG.out]; simp [hx0, hs0, show i * 3 / 3 = i by omega, show (i * 3 + 1) / 3 = i by omega, show (i * 3 + 2) / 3 = i by omega])
      clear hx0 hs0
      have hs9 := HA.out.size
      rw [hs4] at hs9
      have hdW := HDW.out
      by_cases hd : x0 < 0
      · by_cases hs : s0 < 0
        · have HX := Lib.hid (show fl8 G (i + 1) = fl8 G i ++ [.int .u8 (Pl.shade (0)), .int .u8 (Pl.shade (0)), .int .u8 (Pl.shade (0))] by rw [HXX.out, show near x0 s0 = 0 by unfold near; rw [if_pos hs]])
          clear HXX
          go_upto_region 12 with (first | (go_at_call 50; refine (refAdd_any _ _ _).mono ?_; rintro e w' ⟨rfl, rfl⟩) | (go_at_call 49; refine (refDiv_any _ _ _).mono ?_; rintro e w' ⟨rfl, rfl⟩) | (go_at_call 51; refine (rshade_any _ _).mono ?_; rintro e w' ⟨rfl, rfl⟩))
          have hb2 := Ve.below_n1 wr (.cells #[.int .u8 (Pl.shade (0)), .int .u8 (Pl.shade (0)), .int .u8 (Pl.shade (0))] 69)
          have hN2 := heap_alloc_last wr (.cells #[.int .u8 (Pl.shade (0)), .int .u8 (Pl.shade (0)), .int .u8 (Pl.shade (0))] 69)
          have HO2 := Lib.hid (Ls.own_below HO.out hb2)
          have hs2 := hb2.size
          have hx1 := Lib.hid (World.news_of_block hN2)
          have cq0_ := cell_of_row _ _ 0 _ _ _ hdW
          have cq1_ := cell_of_row _ _ 1 _ _ _ hdW
          have cq_ := cell_of_row _ _ 2 _ _ _ hdW
          simp at cq0_ cq1_ cq_
          go_wp2_with (at_builtin; go_loud (refine wpList_append_lies _ rfl _ _ 42 rfl (d + 1) 69 i0 (.agg #[.int .u8 0, .int .u8 0, .int .u8 0]) 3 3 Tryd.underlying42 hi hz0 hz1 hz2 rfl (by decide) _ _ _ rfl HO2.out ⟨wr.heap.size, 0, none⟩ 1 1 [.int .u8 (Pl.shade (0)), .int .u8 (Pl.shade (0)), .int .u8 (Pl.shade (0))] rfl rfl hx1.out (by intro u hu; simp at hu; rcases hu with rfl | rfl | rfl <;> rfl) (by omega) ?c3 ?c4 ?c5 _ rfl ?_))
          case c3 => unfold maxLen; omega
          case c4 => omega
          case c5 => (first | omega | (simp; omega))
          intro g9 cg z3 hown hgrow hgk hlt2
          have hqo := fun r hr => (HO2.out.lt r hr).1
          have HA3 := Lib.hid ((HA.out.trans (Aw.of hb2)).step hgrow (fun r hr => by have := hqo r hr; omega))
          rw [← HX.out] at hown
          have hq2 := (hb2.block _ (lt_heap hdW)).trans hdW
          have hq3 := (hgrow.block d (lt_heap hq2) (fun e => by have := hqo _ e.symm; omega)).trans hq2
          have hs3 := hgrow.size
          have hqn : d ≠ g9 := by rcases hgk with h | h <;> first | omega | (have := hqo _ h; omega) | (simp at h; omega)
          clear cq_ cq0_ cq1_
          have p0 := cell_of_row _ _ 2 _ _ _ hq3
          simp at p0
          have fz : ∀ j, z3.frozen? ⟨d, j, none⟩ = false := fun j => by simp [World.frozen?, hq3]
          have hN : (z3.setCell ⟨d, 2, none⟩ (.slice (some ⟨g9, 0, none⟩) (i + 1) cg)).heap[d]? = some (.cells #[.int .i64 W, .int .i64 H, .slice (some ⟨g9, 0, none⟩) (i + 1) cg] 52 (0, 0)) := heap_setCell_same _ _ 2 _ _ _ hq3
          have HA4 := Lib.hid (HA3.out.set (b := d) (fun h => h.2 rfl) 2 (.slice (some ⟨g9, 0, none⟩) (i + 1) cg))
          have HO4 := Lib.hid (own_via (w' := (z3.setCell ⟨d, 2, none⟩ (.slice (some ⟨g9, 0, none⟩) (i + 1) cg))) hown (fun r hr => Below.heap_setCell _ _ _ _ (by simp [Value.ownBlock] at hr; show r ≠ d; omega)))
          go_wp2_with fail
          go_roundw
          case rel => exact ⟨i + 1, _, _, by omega, by go_num, Lib.hid hN, HO4, HA4⟩
          case measure => simp [intOf]; omega
        · have HX := Lib.hid (show fl8 G (i + 1) = fl8 G i ++ [.int .u8 (Pl.shade (Pl.div 65536 (Pl.add 65536 0))), .int .u8 (Pl.shade (Pl.div 65536 (Pl.add 65536 0))), .int .u8 (Pl.shade (Pl.div 65536 (Pl.add 65536 0)))] by rw [HXX.out, show near x0 s0 = Pl.div 65536 (Pl.add 65536 0) by unfold near; rw [if_neg hs, show max x0 0 = 0 by omega]])
          clear HXX
          go_upto_region 12 with (first | (go_at_call 50; refine (refAdd_any _ _ _).mono ?_; rintro e w' ⟨rfl, rfl⟩) | (go_at_call 49; refine (refDiv_any _ _ _).mono ?_; rintro e w' ⟨rfl, rfl⟩) | (go_at_call 51; refine (rshade_any _ _).mono ?_; rintro e w' ⟨rfl, rfl⟩))
          have hb2 := Ve.below_n1 wr (.cells #[.int .u8 (Pl.shade (Pl.div 65536 (Pl.add 65536 0))), .int .u8 (Pl.shade (Pl.div 65536 (Pl.add 65536 0))), .int .u8 (Pl.shade (Pl.div 65536 (Pl.add 65536 0)))] 69)
          have hN2 := heap_alloc_last wr (.cells #[.int .u8 (Pl.shade (Pl.div 65536 (Pl.add 65536 0))), .int .u8 (Pl.shade (Pl.div 65536 (Pl.add 65536 0))), .int .u8 (Pl.shade (Pl.div 65536 (Pl.add 65536 0)))] 69)
          have HO2 := Lib.hid (Ls.own_below HO.out hb2)
          have hs2 := hb2.size
          have hx1 := Lib.hid (World.news_of_block hN2)
          have cq0_ := cell_of_row _ _ 0 _ _ _ hdW
          have cq1_ := cell_of_row _ _ 1 _ _ _ hdW
          have cq_ := cell_of_row _ _ 2 _ _ _ hdW
          simp at cq0_ cq1_ cq_
          go_wp2_with (at_builtin; go_loud (refine wpList_append_lies _ rfl _ _ 42 rfl (d + 1) 69 i0 (.agg #[.int .u8 0, .int .u8 0, .int .u8 0]) 3 3 Tryd.underlying42 hi hz0 hz1 hz2 rfl (by decide) _ _ _ rfl HO2.out ⟨wr.heap.size, 0, none⟩ 1 1 [.int .u8 (Pl.shade (Pl.div 65536 (Pl.add 65536 0))), .int .u8 (Pl.shade (Pl.div 65536 (Pl.add 65536 0))), .int .u8 (Pl.shade (Pl.div 65536 (Pl.add 65536 0)))] rfl rfl hx1.out (by intro u hu; simp at hu; rcases hu with rfl | rfl | rfl <;> rfl) (by omega) ?c3 ?c4 ?c5 _ rfl ?_))
          case c3 => unfold maxLen; omega
          case c4 => omega
          case c5 => (first | omega | (simp; omega))
          intro g9 cg z3 hown hgrow hgk hlt2
          have hqo := fun r hr => (HO2.out.lt r hr).1
          have HA3 := Lib.hid ((HA.out.trans (Aw.of hb2)).step hgrow (fun r hr => by have := hqo r hr; omega))
          rw [← HX.out] at hown
          have hq2 := (hb2.block _ (lt_heap hdW)).trans hdW
          have hq3 := (hgrow.block d (lt_heap hq2) (fun e => by have := hqo _ e.symm; omega)).trans hq2
          have hs3 := hgrow.size
          have hqn : d ≠ g9 := by rcases hgk with h | h <;> first | omega | (have := hqo _ h; omega) | (simp at h; omega)
          clear cq_ cq0_ cq1_
          have p0 := cell_of_row _ _ 2 _ _ _ hq3
          simp at p0
          have fz : ∀ j, z3.frozen? ⟨d, j, none⟩ = false := fun j => by simp [World.frozen?, hq3]
          have hN : (z3.setCell ⟨d, 2, none⟩ (.slice (some ⟨g9, 0, none⟩) (i + 1) cg)).heap[d]? = some (.cells #[.int .i64 W, .int .i64 H, .slice (some ⟨g9, 0, none⟩) (i + 1) cg] 52 (0, 0)) := heap_setCell_same _ _ 2 _ _ _ hq3
          have HA4 := Lib.hid (HA3.out.set (b := d) (fun h => h.2 rfl) 2 (.slice (some ⟨g9, 0, none⟩) (i + 1) cg))
          have HO4 := Lib.hid (own_via (w' := (z3.setCell ⟨d, 2, none⟩ (.slice (some ⟨g9, 0, none⟩) (i + 1) cg))) hown (fun r hr => Below.heap_setCell _ _ _ _ (by simp [Value.ownBlock] at hr; show r ≠ d; omega)))
          go_wp2_with fail
          go_roundw
          case rel => exact ⟨i + 1, _, _, by omega, by go_num, Lib.hid hN, HO4, HA4⟩
          case measure => simp [intOf]; omega
      · by_cases hs : s0 < 0
        · have HX := Lib.hid (show fl8 G (i + 1) = fl8 G i ++ [.int .u8 (Pl.shade (0)), .int .u8 (Pl.shade (0)), .int .u8 (Pl.shade (0))] by rw [HXX.out, show near x0 s0 = 0 by unfold near; rw [if_pos hs]])
          clear HXX
          go_upto_region 12 with (first | (go_at_call 50; refine (refAdd_any _ _ _).mono ?_; rintro e w' ⟨rfl, rfl⟩) | (go_at_call 49; refine (refDiv_any _ _ _).mono ?_; rintro e w' ⟨rfl, rfl⟩) | (go_at_call 51; refine (rshade_any _ _).mono ?_; rintro e w' ⟨rfl, rfl⟩))
          have hb2 := Ve.below_n1 wr (.cells #[.int .u8 (Pl.shade (0)), .int .u8 (Pl.shade (0)), .int .u8 (Pl.shade (0))] 69)
          have hN2 := heap_alloc_last wr (.cells #[.int .u8 (Pl.shade (0)), .int .u8 (Pl.shade (0)), .int .u8 (Pl.shade (0))] 69)
          have HO2 := Lib.hid (Ls.own_below HO.out hb2)
          have hs2 := hb2.size
          have hx1 := Lib.hid (World.news_of_block hN2)
          have cq0_ := cell_of_row _ _ 0 _ _ _ hdW
          have cq1_ := cell_of_row _ _ 1 _ _ _ hdW
          have cq_ := cell_of_row _ _ 2 _ _ _ hdW
          simp at cq0_ cq1_ cq_
          go_wp2_with (at_builtin; go_loud (refine wpList_append_lies _ rfl _ _ 42 rfl (d + 1) 69 i0 (.agg #[.int .u8 0, .int .u8 0, .int .u8 0]) 3 3 Tryd.underlying42 hi hz0 hz1 hz2 rfl (by decide) _ _ _ rfl HO2.out ⟨wr.heap.size, 0, none⟩ 1 1 [.int .u8 (Pl.shade (0)), .int .u8 (Pl.shade (0)), .int .u8 (Pl.shade (0))] rfl rfl hx1.out (by intro u hu; simp at hu; rcases hu with rfl | rfl | rfl <;> rfl) (by omega) ?c3 ?c4 ?c5 _ rfl ?_))
          case c3 => unfold maxLen; omega
          case c4 => omega
          case c5 => (first | omega | (simp; omega))
          intro g9 cg z3 hown hgrow hgk hlt2
          have hqo := fun r hr => (HO2.out.lt r hr).1
          have HA3 := Lib.hid ((HA.out.trans (Aw.of hb2)).step hgrow (fun r hr => by have := hqo r hr; omega))
          rw [← HX.out] at hown
          have hq2 := (hb2.block _ (lt_heap hdW)).trans hdW
          have hq3 := (hgrow.block d (lt_heap hq2) (fun e => by have := hqo _ e.symm; omega)).trans hq2
          have hs3 := hgrow.size
          have hqn : d ≠ g9 := by rcases hgk with h | h <;> first | omega | (have := hqo _ h; omega) | (simp at h; omega)
          clear cq_ cq0_ cq1_
          have p0 := cell_of_row _ _ 2 _ _ _ hq3
          simp at p0
          have fz : ∀ j, z3.frozen? ⟨d, j, none⟩ = false := fun j => by simp [World.frozen?, hq3]
          have hN : (z3.setCell ⟨d, 2, none⟩ (.slice (some ⟨g9, 0, none⟩) (i + 1) cg)).heap[d]? = some (.cells #[.int .i64 W, .int .i64 H, .slice (some ⟨g9, 0, none⟩) (i + 1) cg] 52 (0, 0)) := heap_setCell_same _ _ 2 _ _ _ hq3
          have HA4 := Lib.hid (HA3.out.set (b := d) (fun h => h.2 rfl) 2 (.slice (some ⟨g9, 0, none⟩) (i + 1) cg))
          have HO4 := Lib.hid (own_via (w' := (z3.setCell ⟨d, 2, none⟩ (.slice (some ⟨g9, 0, none⟩) (i + 1) cg))) hown (fun r hr => Below.heap_setCell _ _ _ _ (by simp [Value.ownBlock] at hr; show r ≠ d; omega)))
          go_wp2_with fail
          go_roundw
          case rel => exact ⟨i + 1, _, _, by omega, by go_num, Lib.hid hN, HO4, HA4⟩
          case measure => simp [intOf]; omega
        · have HX := Lib.hid (show fl8 G (i + 1) = fl8 G i ++ [.int .u8 (Pl.shade (Pl.div 65536 (Pl.add 65536 x0))), .int .u8 (Pl.shade (Pl.div 65536 (Pl.add 65536 x0))), .int .u8 (Pl.shade (Pl.div 65536 (Pl.add 65536 x0)))] by rw [HXX.out, show near x0 s0 = Pl.div 65536 (Pl.add 65536 x0) by unfold near; rw [if_neg hs, show max x0 0 = x0 by omega]])
          clear HXX
          go_upto_region 12 with (first | (go_at_call 50; refine (refAdd_any _ _ _).mono ?_; rintro e w' ⟨rfl, rfl⟩) | (go_at_call 49; refine (refDiv_any _ _ _).mono ?_; rintro e w' ⟨rfl, rfl⟩) | (go_at_call 51; refine (rshade_any _ _).mono ?_; rintro e w' ⟨rfl, rfl⟩))
          have hb2 := Ve.below_n1 wr (.cells #[.int .u8 (Pl.shade (Pl.div 65536 (Pl.add 65536 x0))), .int .u8 (Pl.shade (Pl.div 65536 (Pl.add 65536 x0))), .int .u8 (Pl.shade (Pl.div 65536 (Pl.add 65536 x0)))] 69)
          have hN2 := heap_alloc_last wr (.cells #[.int .u8 (Pl.shade (Pl.div 65536 (Pl.add 65536 x0))), .int .u8 (Pl.shade (Pl.div 65536 (Pl.add 65536 x0))), .int .u8 (Pl.shade (Pl.div 65536 (Pl.add 65536 x0)))] 69)
          have HO2 := Lib.hid (Ls.own_below HO.out hb2)
          have hs2 := hb2.size
          have hx1 := Lib.hid (World.news_of_block hN2)
          have cq0_ := cell_of_row _ _ 0 _ _ _ hdW
          have cq1_ := cell_of_row _ _ 1 _ _ _ hdW
          have cq_ := cell_of_row _ _ 2 _ _ _ hdW
          simp at cq0_ cq1_ cq_
          go_wp2_with (at_builtin; go_loud (refine wpList_append_lies _ rfl _ _ 42 rfl (d + 1) 69 i0 (.agg #[.int .u8 0, .int .u8 0, .int .u8 0]) 3 3 Tryd.underlying42 hi hz0 hz1 hz2 rfl (by decide) _ _ _ rfl HO2.out ⟨wr.heap.size, 0, none⟩ 1 1 [.int .u8 (Pl.shade (Pl.div 65536 (Pl.add 65536 x0))), .int .u8 (Pl.shade (Pl.div 65536 (Pl.add 65536 x0))), .int .u8 (Pl.shade (Pl.div 65536 (Pl.add 65536 x0)))] rfl rfl hx1.out (by intro u hu; simp at hu; rcases hu with rfl | rfl | rfl <;> rfl) (by omega) ?c3 ?c4 ?c5 _ rfl ?_))
          case c3 => unfold maxLen; omega
          case c4 => omega
          case c5 => (first | omega | (simp; omega))
          intro g9 cg z3 hown hgrow hgk hlt2
          have hqo := fun r hr => (HO2.out.lt r hr).1
          have HA3 := Lib.hid ((HA.out.trans (Aw.of hb2)).step hgrow (fun r hr => by have := hqo r hr; omega))
          rw [← HX.out] at hown
          have hq2 := (hb2.block _ (lt_heap hdW)).trans hdW
          have hq3 := (hgrow.block d (lt_heap hq2) (fun e => by have := hqo _ e.symm; omega)).trans hq2
          have hs3 := hgrow.size
          have hqn : d ≠ g9 := by rcases hgk with h | h <;> first | omega | (have := hqo _ h; omega) | (simp at h; omega)
          clear cq_ cq0_ cq1_
          have p0 := cell_of_row _ _ 2 _ _ _ hq3
          simp at p0
          have fz : ∀ j, z3.frozen? ⟨d, j, none⟩ = false := fun j => by simp [World.frozen?, hq3]
          have hN : (z3.setCell ⟨d, 2, none⟩ (.slice (some ⟨g9, 0, none⟩) (i + 1) cg)).heap[d]? = some (.cells #[.int .i64 W, .int .i64 H, .slice (some ⟨g9, 0, none⟩) (i + 1) cg] 52 (0, 0)) := heap_setCell_same _ _ 2 _ _ _ hq3
          have HA4 := Lib.hid (HA3.out.set (b := d) (fun h => h.2 rfl) 2 (.slice (some ⟨g9, 0, none⟩) (i + 1) cg))
          have HO4 := Lib.hid (own_via (w' := (z3.setCell ⟨d, 2, none⟩ (.slice (some ⟨g9, 0, none⟩) (i + 1) cg))) hown (fun r hr => Below.heap_setCell _ _ _ _ (by simp [Value.ownBlock] at hr; show r ≠ d; omega)))
          go_wp2_with fail
          go_roundw
          case rel => exact ⟨i + 1, _, _, by omega, by go_num, Lib.hid hN, HO4, HA4⟩
          case measure => simp [intOf]; omega
    · have hge : ¬ (i : Int) < n := by omega
      have hin : i = n := by omega
      rw [hin] at HDW HO hge ⊢
      have HOF := Lib.hid (ownsRow_le_ HO.out (show w.heap.size ≤ d + 1 by have := HBW.out; have := HDB.out; omega))
      have HRq := Lib.hid ((HA.out.block (B + 1) ⟨by omega, by omega⟩ (lt_heap HR4.out)).trans HR4.out)
      have t0 := cell_of_row _ _ 0 _ _ _ HDW.out
      have t1 := cell_of_row _ _ 1 _ _ _ HDW.out
      have t2 := cell_of_row _ _ 2 _ _ _ HDW.out
      simp at t0 t1 t2
      have HOW := Lib.hid (show ∀ q, (Value.slice av n cv).ownBlock = some q → q ≠ B + 1 from fun q hq => by have := (HO.out.lt q hq).1; omega)
      have s0 := cell_of_row _ _ 0 _ _ _ HRq.out
      have s1 := cell_of_row _ _ 1 _ _ _ HRq.out
      have s2 := cell_of_row _ _ 2 _ _ _ HRq.out
      simp at s0 s1 s2
      have hf : ∀ j, wr.frozen? ⟨B + 1, j, none⟩ = false := fun j => by simp [World.frozen?, HRq.out]
      have hf0 := hf 0
      have hf1 := hf 1
      have hf2 := hf 2
      clear hf
      go_wp2
      have hN := setRow_heap wr (B + 1) _ #[.int .i64 W, .int .i64 H, .slice av n cv] _ _ HRq.out
      have HBN := Lib.hid (below_setRow (g := B + 1) HBq.out (by have := HBW.out; omega) #[.int .i64 W, .int .i64 H, .slice av n cv])
      rw [part3r HRq.out (.int .i64 W) (.int .i64 H) (.slice av n cv)]
      exact bodyPost_ret (v := .agg #[.int .i64 W, .int .i64 H, .slice av n cv]) (results_row (t := 52) Tryd.results18 rfl hN Tryd.underlying52 rfl HI.out) rfl ⟨⟨_, rfl, own_via HOF.out (fun q hq => setRow_other _ _ _ _ (HOW.out q hq))⟩, HBN.out⟩

end Go.Proofs.YtcohehekkeeeoaaDoor.Pq
