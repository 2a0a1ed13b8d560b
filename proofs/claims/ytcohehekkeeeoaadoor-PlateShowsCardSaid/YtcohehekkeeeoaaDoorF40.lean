/- Layer 21 (plate): normals as a picture, by the document. -/
import Derived.Test.YtcohehekkeeeoaaDoorF39
namespace Go.Proofs.YtcohehekkeeeoaaDoor.Pq
open Go Go.RowKit Go.Proofs.YtcohehekkeeeoaaDoor Go.Proofs.YtcohehekkeeeoaaDoor.Re Go.Proofs.YtcohehekkeeeoaaDoor.Au Go.Proofs.YtcohehekkeeeoaaDoor.Pg Go.Proofs.YtcohehekkeeeoaaDoor.Hv Go.Proofs.YtcohehekkeeeoaaDoor.Wa
set_option linter.unusedVariables false
set_option linter.unusedSimpArgs false

set_option maxHeartbeats 4000000 in
set_option maxRecDepth 100000 in
theorem rnormals_any (W H : Int) (al ad an ab ax af : Option Addr) (nl nd n nb ns nf cl cd cn cb cx cf : Nat) (L : Nat → Int) (w : World) (h : Fm.Rw 3 w an n L) (hn : n ≤ 5000) : Calls Tryd.prog 19 #[.agg #[.int .i64 W, .int .i64 H, .slice al nl cl, .slice ad nd cd, .slice an n cn, .slice ab nb cb, .slice ax ns cx, .slice af nf cf]] w fun e' w' => (∃ v, e' = .returned (.agg #[.int .i64 W, .int .i64 H, v]) ∧ w'.ownsRow w.heap.size 69 3 v n (fl8 (fun j => side (L j)) n)) ∧ Below w.heap.size w w' := by
  have HR := Lib.hid h
  clear h
  obtain ⟨G, hG⟩ : ∃ G, G = fun j => side (L j) := ⟨_, rfl⟩
  have HG := Lib.hid hG
  rw [← hG]
  clear hG
  obtain ⟨i0, hi, hz0, hz1, hz2⟩ := info_parts info3
  obtain ⟨B, hB⟩ : ∃ B, B = w.heap.size := ⟨_, rfl⟩
  go_enter Tryd.func19, Tryd.ntmps19
  go_upto_region 1 with fail
  have hr := rows2 w (.cells #[.int .i64 W, .int .i64 H, .slice al nl cl, .slice ad nd cd, .slice an n cn, .slice ab nb cb, .slice ax ns cx, .slice af nf cf] 29) (.cells #[.int .i64 0, .int .i64 0, .slice none 0 0] 52)
  have hb := Ve.below_n2 w (.cells #[.int .i64 W, .int .i64 H, .slice al nl cl, .slice ad nd cd, .slice an n cn, .slice ab nb cb, .slice ax ns cx, .slice af nf cf] 29) (.cells #[.int .i64 0, .int .i64 0, .slice none 0 0] 52)
  have hs : ((w.alloc (.cells #[.int .i64 W, .int .i64 H, .slice al nl cl, .slice ad nd cd, .slice an n cn, .slice ab nb cb, .slice ax ns cx, .slice af nf cf] 29)).alloc (.cells #[.int .i64 0, .int .i64 0, .slice none 0 0] 52)).heap.size = w.heap.size + 2 := by simp
  obtain ⟨y0, hy0⟩ : ∃ y0, (w.alloc (.cells #[.int .i64 W, .int .i64 H, .slice al nl cl, .slice ad nd cd, .slice an n cn, .slice ab nb cb, .slice ax ns cx, .slice af nf cf] 29)).alloc (.cells #[.int .i64 0, .int .i64 0, .slice none 0 0] 52) = y0 := ⟨_, rfl⟩
  rw [hy0] at hr hb hs ⊢
  rw [← hB] at hr hs ⊢
  have HBW := Lib.hid hB
  clear hy0
  have HB0 := Lib.hid hb
  clear hb hB
  have c0 := cell_of_row _ _ 0 _ _ _ hr.1
  have c1 := cell_of_row _ _ 1 _ _ _ hr.1
  simp at c0 c1
  have HI := Lib.hid (show (Tryd.prog.info? 52).map (·.size) = some 3 by kernel_rfl)
  have HS := Lib.hid hs
  clear hs
  go_upto_region 2 with fail
  have hs := HS.out
  have hb4 := Ve.below_n1 y0 (.cells #[.int .i64 W, .int .i64 H, .slice none 0 0] 52)
  have hd4 := heap_alloc_last y0 (.cells #[.int .i64 W, .int .i64 H, .slice none 0 0] 52)
  have hs4 : (y0.alloc (.cells #[.int .i64 W, .int .i64 H, .slice none 0 0] 52)).heap.size = y0.heap.size + 1 := by simp
  obtain ⟨y4, hy4⟩ : ∃ y4, y0.alloc (.cells #[.int .i64 W, .int .i64 H, .slice none 0 0] 52) = y4 := ⟨_, rfl⟩
  obtain ⟨d, hdd⟩ : ∃ d, d = y0.heap.size := ⟨_, rfl⟩
  rw [hy4] at hb4 hd4 hs4 ⊢
  rw [← hdd] at hd4 hs4 ⊢
  have HDB := Lib.hid (show d = B + 2 by omega)
  have hdB1 : B + 1 < d := by omega
  have HR4 := Lib.hid ((hb4.block (B + 1) (by omega)).trans hr.2)
  have HX4 := Lib.hid ((hb4.block B (by omega)).trans hr.1)
  have HB4 := Lib.hid (HB0.out.trans (hb4.mono HB0.out.size))
  have HD4 := Lib.hid hd4
  clear hy4 hdd hb4 hd4 c0 c1 hr hs
  go_upto_region 3 with fail
  go_loopw [4] (fun v wr => ∃ (i : Nat) (av : Option Addr) (cv : Nat), i ≤ n ∧ v = .int .i64 i ∧ Hid (wr.heap[d]? = some (.cells #[.int .i64 W, .int .i64 H, .slice av i cv] 52 (0, 0))) ∧ Hid (wr.ownsRow (d + 1) 69 3 (.slice av i cv) i (fl8 G i)) ∧ Hid (Aw (fun k => k < d + 1 ∧ k ≠ d) y4 wr)) (fun v _ => n - (intOf v).toNat)
  case atStart => exact ⟨0, none, 0, by omega, rfl, HD4, Lib.hid (World.ownsRow_nil _ _ _ _), Lib.hid (Aw.refl _ _)⟩
  case round =>
    obtain ⟨i, av, cv, hiK, rfl, HDW, HO, HA⟩ := hrel
    have HBq := Lib.hid (HB4.out.trans (HA.out.below (fun k hk => ⟨by have := HBW.out; have := HDB.out; omega, by have := HBW.out; have := HDB.out; omega⟩) HB4.out.size))
    have hbx : wr.heap[B]? = some (.cells #[.int .i64 W, .int .i64 H, .slice al nl cl, .slice ad nd cd, .slice an n cn, .slice ab nb cb, .slice ax ns cx, .slice af nf cf] 29 (0, 0)) := (HA.out.block B ⟨by omega, by omega⟩ (lt_heap HX4.out)).trans HX4.out
    have b0 := cell_of_row _ _ 0 _ _ _ hbx
    have b1 := cell_of_row _ _ 1 _ _ _ hbx
    have b4 := cell_of_row _ _ 4 _ _ _ hbx
    simp at b0 b1 b4
    by_cases hlt : i < n
    · have hlti : (i : Int) < n := by omega
      obtain ⟨sb, so, hsa, e0, e1, e2⟩ := (HR.out.on HBq.out).at3 hlt
      subst hsa
      obtain ⟨x0, hx0⟩ : ∃ x, x = L (i * 3) := ⟨_, rfl⟩
      rw [← hx0] at e0
      obtain ⟨x1, hx1⟩ : ∃ x, x = L (i * 3 + 1) := ⟨_, rfl⟩
      rw [← hx1] at e1
      obtain ⟨x2, hx2⟩ : ∃ x, x = L (i * 3 + 2) := ⟨_, rfl⟩
      rw [← hx2] at e2
      have HX := Lib.hid (show fl8 G (i + 1) = fl8 G i ++ [.int .u8 (Pl.shade (Pl.div (Pl.add x0 65536) 131072)), .int .u8 (Pl.shade (Pl.div (Pl.add x1 65536) 131072)), .int .u8 (Pl.shade (Pl.div (Pl.add x2 65536) 131072))] by rw [fl8, HG.out]; simp [side, hx0, hx1, hx2])
      clear hx0 hx1 hx2
      have hs9 := HA.out.size
      rw [hs4] at hs9
      have hdW := HDW.out
      have hsbl := World.block_lt_of_cell? _ _ e0
      simp at hsbl
      go_upto_region 6 with fail
      obtain ⟨q, hq⟩ : ∃ q, q = wr.heap.size := ⟨_, rfl⟩
      have hb0 := Ve.below_n1 wr (.cells #[.int .u8 0, .int .u8 0, .int .u8 0] 69)
      have hq0 := heap_alloc_last wr (.cells #[.int .u8 0, .int .u8 0, .int .u8 0] 69)
      have hd0 := (hb0.block d (lt_heap hdW)).trans hdW
      have hx0_ := (hb0.block B (lt_heap hbx)).trans hbx
      have ce : ∀ o v, wr.cell? ⟨sb, o, none⟩ = some v → (wr.alloc (.cells #[.int .u8 0, .int .u8 0, .int .u8 0] 69)).cell? ⟨sb, o, none⟩ = some v := fun o v h => (hb0.cell (World.block_lt_of_cell? _ _ h)).trans h
      have e0' := ce _ _ e0
      have e1' := ce _ _ e1
      have e2' := ce _ _ e2
      have HAu0 := Lib.hid (HA.out.trans (Aw.of hb0))
      have HOu0 := Lib.hid (Ls.own_below HO.out hb0)
      have HON := Lib.hid (show ∀ r, (Value.slice av i cv).ownBlock = some r → r ≠ q from fun r hr => by have := (HO.out.lt r hr).2; omega)
      obtain ⟨u0, hu0⟩ : ∃ y, wr.alloc (.cells #[.int .u8 0, .int .u8 0, .int .u8 0] 69) = y := ⟨_, rfl⟩
      rw [hu0] at hq0 hd0 hx0_ e0' e1' e2' HAu0 HOu0 ⊢
      rw [← hq] at hq0 ⊢
      have hqd : d < q := by have := lt_heap hdW; omega
      have hsq : sb ≠ q := by omega
      have hBq : B ≠ q := by omega
      clear hu0 ce hb0 e0 e1 e2 b0 b1 b4 hbx hdW hq hsbl
      have HS9 := Lib.hid (show d + 1 ≤ u0.heap.size by have := HAu0.out.size; omega)
      clear hs9
      go_upto_region 7 with fail
      refine wp_loop_rounds 4 ?_
      rw [rounds_succ]
      have g4 := cell_of_row _ _ 4 _ _ _ hx0_
      have g0 := cell_of_row _ _ 0 _ _ _ hq0
      have fz := fun j => show u0.frozen? ⟨q, j, none⟩ = false by simp [World.frozen?, hq0]
      simp at g4 g0
      go_wp2_with (first | (go_at_call 50; refine (refAdd_any _ _ _).mono ?_; rintro e w' ⟨rfl, rfl⟩) | (go_at_call 49; refine (refDiv_any _ _ _).mono ?_; rintro e w' ⟨rfl, rfl⟩) | (go_at_call 51; refine (rshade_any _ _).mono ?_; rintro e w' ⟨rfl, rfl⟩))
      clear g4 g0 fz
      have hq1 : (u0.setCell ⟨q, 0, none⟩ (.int .u8 (Pl.shade (Pl.div (Pl.add x0 65536) 131072)))).heap[q]? = some (.cells #[.int .u8 (Pl.shade (Pl.div (Pl.add x0 65536) 131072)), .int .u8 0, .int .u8 0] 69 (0, 0)) := heap_setCell_same _ _ 0 _ _ _ hq0
      have hd1 : (u0.setCell ⟨q, 0, none⟩ (.int .u8 (Pl.shade (Pl.div (Pl.add x0 65536) 131072)))).heap[d]? = _ := (Below.heap_setCell _ _ _ _ (show d ≠ q by omega)).trans hd0
      have hx1_ : (u0.setCell ⟨q, 0, none⟩ (.int .u8 (Pl.shade (Pl.div (Pl.add x0 65536) 131072)))).heap[B]? = _ := (Below.heap_setCell _ _ _ _ (show B ≠ q from hBq)).trans hx0_
      have ce : ∀ o v, u0.cell? ⟨sb, o, none⟩ = some v → (u0.setCell ⟨q, 0, none⟩ (.int .u8 (Pl.shade (Pl.div (Pl.add x0 65536) 131072)))).cell? ⟨sb, o, none⟩ = some v := fun o v h => (World.cell?_of_block (a := ⟨sb, o, none⟩) (Below.heap_setCell _ _ _ _ (show sb ≠ q from hsq))).trans h
      replace e0' := ce _ _ e0'
      replace e1' := ce _ _ e1'
      replace e2' := ce _ _ e2'
      have HAu1 := Lib.hid (HAu0.out.set (b := q) (fun h => by have := h.1; omega) 0 (.int .u8 (Pl.shade (Pl.div (Pl.add x0 65536) 131072))))
      have HOu1 := Lib.hid (own_via (w' := u0.setCell ⟨q, 0, none⟩ (.int .u8 (Pl.shade (Pl.div (Pl.add x0 65536) 131072)))) HOu0.out (fun r hr => Below.heap_setCell _ _ _ _ (HON.out r hr)))
      have HSu : Hid (d + 1 ≤ (u0.setCell ⟨q, 0, none⟩ (.int .u8 (Pl.shade (Pl.div (Pl.add x0 65536) 131072)))).heap.size) := Lib.hid (by have := HS9.out; simpa using this)
      obtain ⟨u1, hu1⟩ : ∃ y, u0.setCell ⟨q, 0, none⟩ (.int .u8 (Pl.shade (Pl.div (Pl.add x0 65536) 131072))) = y := ⟨_, rfl⟩
      rw [hu1] at hq1 hd1 hx1_ e0' e1' e2' HAu1 HOu1 HSu ⊢
      clear hu1 ce hq0 hd0 hx0_ HAu0 HOu0 HS9
      have HS9 := HSu
      clear HSu
      rw [rounds_succ]
      have g4 := cell_of_row _ _ 4 _ _ _ hx1_
      have g1 := cell_of_row _ _ 1 _ _ _ hq1
      have fz := fun j => show u1.frozen? ⟨q, j, none⟩ = false by simp [World.frozen?, hq1]
      simp at g4 g1
      go_wp2_with (first | (go_at_call 50; refine (refAdd_any _ _ _).mono ?_; rintro e w' ⟨rfl, rfl⟩) | (go_at_call 49; refine (refDiv_any _ _ _).mono ?_; rintro e w' ⟨rfl, rfl⟩) | (go_at_call 51; refine (rshade_any _ _).mono ?_; rintro e w' ⟨rfl, rfl⟩))
      clear g4 g1 fz
      have hq2 : (u1.setCell ⟨q, 1, none⟩ (.int .u8 (Pl.shade (Pl.div (Pl.add x1 65536) 131072)))).heap[q]? = some (.cells #[.int .u8 (Pl.shade (Pl.div (Pl.add x0 65536) 131072)), .int .u8 (Pl.shade (Pl.div (Pl.add x1 65536) 131072)), .int .u8 0] 69 (0, 0)) := heap_setCell_same _ _ 1 _ _ _ hq1
      have hd2 : (u1.setCell ⟨q, 1, none⟩ (.int .u8 (Pl.shade (Pl.div (Pl.add x1 65536) 131072)))).heap[d]? = _ := (Below.heap_setCell _ _ _ _ (show d ≠ q by omega)).trans hd1
      have hx2_ : (u1.setCell ⟨q, 1, none⟩ (.int .u8 (Pl.shade (Pl.div (Pl.add x1 65536) 131072)))).heap[B]? = _ := (Below.heap_setCell _ _ _ _ (show B ≠ q from hBq)).trans hx1_
      have ce : ∀ o v, u1.cell? ⟨sb, o, none⟩ = some v → (u1.setCell ⟨q, 1, none⟩ (.int .u8 (Pl.shade (Pl.div (Pl.add x1 65536) 131072)))).cell? ⟨sb, o, none⟩ = some v := fun o v h => (World.cell?_of_block (a := ⟨sb, o, none⟩) (Below.heap_setCell _ _ _ _ (show sb ≠ q from hsq))).trans h
      replace e0' := ce _ _ e0'
      replace e1' := ce _ _ e1'
      replace e2' := ce _ _ e2'
      have HAu2 := Lib.hid (HAu1.out.set (b := q) (fun h => by have := h.1; omega) 1 (.int .u8 (Pl.shade (Pl.div (Pl.add x1 65536) 131072))))
      have HOu2 := Lib.hid (own_via (w' := u1.setCell ⟨q, 1, none⟩ (.int .u8 (Pl.shade (Pl.div (Pl.add x1 65536) 131072)))) HOu1.out (fun r hr => Below.heap_setCell _ _ _ _ (HON.out r hr)))
      have HSu : Hid (d + 1 ≤ (u1.setCell ⟨q, 1, none⟩ (.int .u8 (Pl.shade (Pl.div (Pl.add x1 65536) 131072)))).heap.size) := Lib.hid (by have := HS9.out; simpa using this)
      obtain ⟨u2, hu2⟩ : ∃ y, u1.setCell ⟨q, 1, none⟩ (.int .u8 (Pl.shade (Pl.div (Pl.add x1 65536) 131072))) = y := ⟨_, rfl⟩
      rw [hu2] at hq2 hd2 hx2_ e0' e1' e2' HAu2 HOu2 HSu ⊢
      clear hu2 ce hq1 hd1 hx1_ HAu1 HOu1 HS9
      have HS9 := HSu
      clear HSu
      rw [rounds_succ]
      have g4 := cell_of_row _ _ 4 _ _ _ hx2_
      have g2 := cell_of_row _ _ 2 _ _ _ hq2
      have fz := fun j => show u2.frozen? ⟨q, j, none⟩ = false by simp [World.frozen?, hq2]
      simp at g4 g2
      go_wp2_with (first | (go_at_call 50; refine (refAdd_any _ _ _).mono ?_; rintro e w' ⟨rfl, rfl⟩) | (go_at_call 49; refine (refDiv_any _ _ _).mono ?_; rintro e w' ⟨rfl, rfl⟩) | (go_at_call 51; refine (rshade_any _ _).mono ?_; rintro e w' ⟨rfl, rfl⟩))
      clear g4 g2 fz
      have hq3 : (u2.setCell ⟨q, 2, none⟩ (.int .u8 (Pl.shade (Pl.div (Pl.add x2 65536) 131072)))).heap[q]? = some (.cells #[.int .u8 (Pl.shade (Pl.div (Pl.add x0 65536) 131072)), .int .u8 (Pl.shade (Pl.div (Pl.add x1 65536) 131072)), .int .u8 (Pl.shade (Pl.div (Pl.add x2 65536) 131072))] 69 (0, 0)) := heap_setCell_same _ _ 2 _ _ _ hq2
      have hd3 : (u2.setCell ⟨q, 2, none⟩ (.int .u8 (Pl.shade (Pl.div (Pl.add x2 65536) 131072)))).heap[d]? = _ := (Below.heap_setCell _ _ _ _ (show d ≠ q by omega)).trans hd2
      have hx3_ : (u2.setCell ⟨q, 2, none⟩ (.int .u8 (Pl.shade (Pl.div (Pl.add x2 65536) 131072)))).heap[B]? = _ := (Below.heap_setCell _ _ _ _ (show B ≠ q from hBq)).trans hx2_
      have ce : ∀ o v, u2.cell? ⟨sb, o, none⟩ = some v → (u2.setCell ⟨q, 2, none⟩ (.int .u8 (Pl.shade (Pl.div (Pl.add x2 65536) 131072)))).cell? ⟨sb, o, none⟩ = some v := fun o v h => (World.cell?_of_block (a := ⟨sb, o, none⟩) (Below.heap_setCell _ _ _ _ (show sb ≠ q from hsq))).trans h
      replace e0' := ce _ _ e0'
      replace e1' := ce _ _ e1'
      replace e2' := ce _ _ e2'
      have HAu3 := Lib.hid (HAu2.out.set (b := q) (fun h => by have := h.1; omega) 2 (.int .u8 (Pl.shade (Pl.div (Pl.add x2 65536) 131072))))
      have HOu3 := Lib.hid (own_via (w' := u2.setCell ⟨q, 2, none⟩ (.int .u8 (Pl.shade (Pl.div (Pl.add x2 65536) 131072)))) HOu2.out (fun r hr => Below.heap_setCell _ _ _ _ (HON.out r hr)))
      have HSu : Hid (d + 1 ≤ (u2.setCell ⟨q, 2, none⟩ (.int .u8 (Pl.shade (Pl.div (Pl.add x2 65536) 131072)))).heap.size) := Lib.hid (by have := HS9.out; simpa using this)
      obtain ⟨u3, hu3⟩ : ∃ y, u2.setCell ⟨q, 2, none⟩ (.int .u8 (Pl.shade (Pl.div (Pl.add x2 65536) 131072))) = y := ⟨_, rfl⟩
      rw [hu3] at hq3 hd3 hx3_ e0' e1' e2' HAu3 HOu3 HSu ⊢
      clear hu3 ce hq2 hd2 hx2_ HAu2 HOu2 HS9
      have HS9 := HSu
      clear HSu
      rw [rounds_succ]
      have HZD := Lib.hid hd3
      have g0 := cell_of_row _ _ 0 _ _ _ hq3
      have g1 := cell_of_row _ _ 1 _ _ _ hq3
      have g2 := cell_of_row _ _ 2 _ _ _ hq3
      simp at g0 g1 g2
      go_upto_region 10 with fail
      have hqS := HS9.out
      have hb2 := Ve.below_n1 u3 (.cells #[.int .u8 (Pl.shade (Pl.div (Pl.add x0 65536) 131072)), .int .u8 (Pl.shade (Pl.div (Pl.add x1 65536) 131072)), .int .u8 (Pl.shade (Pl.div (Pl.add x2 65536) 131072))] 69)
      have hN2 := heap_alloc_last u3 (.cells #[.int .u8 (Pl.shade (Pl.div (Pl.add x0 65536) 131072)), .int .u8 (Pl.shade (Pl.div (Pl.add x1 65536) 131072)), .int .u8 (Pl.shade (Pl.div (Pl.add x2 65536) 131072))] 69)
      have HO2 := Lib.hid (Ls.own_below HOu3.out hb2)
      have hs2 := hb2.size
      have hx1 := Lib.hid (World.news_of_block hN2)
      have cq0_ := cell_of_row _ _ 0 _ _ _ hd3
      have cq1_ := cell_of_row _ _ 1 _ _ _ hd3
      have cq_ := cell_of_row _ _ 2 _ _ _ hd3
      simp at cq0_ cq1_ cq_
      go_wp2_with (at_builtin; go_loud (refine wpList_append_lies _ rfl _ _ 42 rfl (d + 1) 69 i0 (.agg #[.int .u8 0, .int .u8 0, .int .u8 0]) 3 3 Tryd.underlying42 hi hz0 hz1 hz2 rfl (by decide) _ _ _ rfl HO2.out ⟨u3.heap.size, 0, none⟩ 1 1 [.int .u8 (Pl.shade (Pl.div (Pl.add x0 65536) 131072)), .int .u8 (Pl.shade (Pl.div (Pl.add x1 65536) 131072)), .int .u8 (Pl.shade (Pl.div (Pl.add x2 65536) 131072))] rfl rfl hx1.out (by intro u hu; simp at hu; rcases hu with rfl | rfl | rfl <;> rfl) (by omega) ?c3 ?c4 ?c5 _ rfl ?_))
      case c3 => unfold maxLen; omega
      case c4 => omega
      case c5 => (first | omega | (simp; omega))
      intro g9 cg z3 hown hgrow hgk hlt2
      have hqo := fun r hr => (HO2.out.lt r hr).1
      have HA3 := Lib.hid ((HAu3.out.trans (Aw.of hb2)).step hgrow (fun r hr => by have := hqo r hr; omega))
      rw [← HX.out] at hown
      have hq2 := (hb2.block _ (lt_heap hd3)).trans hd3
      have hq3 := (hgrow.block d (lt_heap hq2) (fun e => by have := hqo _ e.symm; omega)).trans hq2
      have hs3 := hgrow.size
      have hqn : d ≠ g9 := by rcases hgk with h | h <;> first | omega | (have := hqo _ h; omega) | (simp at h; omega)
      clear cq_ cq0_ cq1_
      have p0 := cell_of_row _ _ 2 _ _ _ hq3
      simp at p0
      have fz : ∀ j, z3.frozen? ⟨d, j, none⟩ = false := fun j => by simp [World.frozen?, hq3]
      have hN : (z3.setCell ⟨d, 2, none⟩ (.slice (some ⟨g9, 0, none⟩) (i + 1) cg)).heap[d]? = some (.cells #[.int .i64 W, .int .i64 H, .slice (some ⟨g9, 0, none⟩) (i + 1) cg] 52 (0, 0)) := heap_setCell_same _ _ 2 _ _ _ hq3
      have HA4 := Lib.hid (HA3.out.set (b := d) (fun h => h.2 rfl) 2 (.slice (some ⟨g9, 0, none⟩) (i + 1) cg))
      have HO4 := Lib.hid (own_via (w' := (z3.setCell ⟨d, 2, none⟩ (.slice (some ⟨g9, 0, none⟩) (i + 1) cg))) hown (fun r hr => Below.heap_setCell _ _ _ _ (by simp [Value.ownBlock] at hr; show r ≠ d; omega)))
      go_wp2_with fail
      go_roundw
      case rel => exact ⟨i + 1, _, _, by omega, by go_num, Lib.hid hN, HO4, HA4⟩
      case measure => simp [intOf]; omega
    · have hge : ¬ (i : Int) < n := by omega
      have hin : i = n := by omega
      rw [hin] at HDW HO hge ⊢
      have HOF := Lib.hid (ownsRow_le_ HO.out (show w.heap.size ≤ d + 1 by have := HBW.out; have := HDB.out; omega))
      have HRq := Lib.hid ((HA.out.block (B + 1) ⟨by omega, by omega⟩ (lt_heap HR4.out)).trans HR4.out)
      have t0 := cell_of_row _ _ 0 _ _ _ HDW.out
      have t1 := cell_of_row _ _ 1 _ _ _ HDW.out
      have t2 := cell_of_row _ _ 2 _ _ _ HDW.out
      simp at t0 t1 t2
      have HOW := Lib.hid (show ∀ q, (Value.slice av n cv).ownBlock = some q → q ≠ B + 1 from fun q hq => by have := (HO.out.lt q hq).1; omega)
      have s0 := cell_of_row _ _ 0 _ _ _ HRq.out
      have s1 := cell_of_row _ _ 1 _ _ _ HRq.out
      have s2 := cell_of_row _ _ 2 _ _ _ HRq.out
      simp at s0 s1 s2
      have hf : ∀ j, wr.frozen? ⟨B + 1, j, none⟩ = false := fun j => by simp [World.frozen?, HRq.out]
      have hf0 := hf 0
      have hf1 := hf 1
      have hf2 := hf 2
      clear hf
      go_wp2
      have hN := setRow_heap wr (B + 1) _ #[.int .i64 W, .int .i64 H, .slice av n cv] _ _ HRq.out
      have HBN := Lib.hid (below_setRow (g := B + 1) HBq.out (by have := HBW.out; omega) #[.int .i64 W, .int .i64 H, .slice av n cv])
      rw [part3r HRq.out (.int .i64 W) (.int .i64 H) (.slice av n cv)]
      exact bodyPost_ret (v := .agg #[.int .i64 W, .int .i64 H, .slice av n cv]) (results_row (t := 52) Tryd.results19 rfl hN Tryd.underlying52 rfl HI.out) rfl ⟨⟨_, rfl, own_via HOF.out (fun q hq => setRow_other _ _ _ _ (HOW.out q hq))⟩, HBN.out⟩

end Go.Proofs.YtcohehekkeeeoaaDoor.Pq
