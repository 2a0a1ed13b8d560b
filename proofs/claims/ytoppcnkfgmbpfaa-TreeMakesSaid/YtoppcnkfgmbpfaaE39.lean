/- Trees: what the program's maker adds. -/
import Derived.Test.YtoppcnkfgmbpfaaE38
import Derived.Deep.AppendLies
namespace Go.Proofs.Ytoppcnkfgmbpfaa.Tr
open Go.RowKit Go.Proofs.Ytoppcnkfgmbpfaa Go.Proofs.Ytoppcnkfgmbpfaa.Wa Go.Proofs.Ytoppcnkfgmbpfaa.Ve Go.Proofs.Ytoppcnkfgmbpfaa.Au Go.Proofs.Ytoppcnkfgmbpfaa.Bx
set_option linter.unusedVariables false
set_option linter.unusedSimpArgs false

theorem infoNodeP : (Try.prog.info? 45).map (fun i => (i.zero, i.size, i.bytes)) = some (some (.agg #[.int .i64 0, .int .i64 0, .int .i64 0, .int .i64 0, .int .i64 0, .int .i64 0, .int .i64 0, .int .i64 0, .int .i64 0, .int .i64 0, .int .i64 0, .int .i64 0, .int .i64 0, .int .i64 0, .int .i64 0, .int .i64 0]), 16, 128) := by kernel_rfl

theorem news_list {w : World} {g o : Nat} {l : List Nat} (h : ∀ j, j < l.length → w.cell? ⟨g, o + j, none⟩ = some (.int .i64 ((l.getD j 0 : Nat) : Int))) : ∀ j u, (nv l)[j]? = some u → w.cell? ((⟨g, o, none⟩ : Addr).add j) = some u := by
  intro j u hj
  have hlt : j < l.length := by
    rcases Nat.lt_or_ge j l.length with h1 | h1
    · exact h1
    · rw [List.getElem?_eq_none (by simp [nv]; exact h1)] at hj
      cases hj
  rw [nv_at _ _ hlt] at hj
  rw [← hj, ← h j hlt]
  have e : (⟨g, o, none⟩ : Addr).add j = ⟨g, o + j, none⟩ := by simp [Addr.add]
  rw [e]

theorem nv_one (l : List Nat) : ∀ u ∈ nv l, u.oneCell' = true := by
  intro u hu
  obtain ⟨x, -, rfl⟩ := List.mem_map.mp hu
  rfl

theorem nv_len (l : List Nat) : (nv l).length = l.length * 1 := by simp [nv]

theorem grow_leaf (PL : Nat → Int) (f : Nat) (l : List Nat) (a o : Nat) (h : l.length ≤ 4) : grow PL (f + 1) l a o = ([⟨l, -1, -1, o, l.length⟩], l) := by rw [grow, if_pos h]

theorem grow_node (PL : Nat → Int) (f : Nat) (l : List Nat) (a o : Nat) (h : ¬ l.length ≤ 4) : grow PL (f + 1) l a o =
    (⟨l, (a + 1 : Nat), (a + 1 + (grow PL f (splitA PL l) (a + 1) o).1.length : Nat), 0, 0⟩ :: ((grow PL f (splitA PL l) (a + 1) o).1 ++ (grow PL f (splitB PL l) (a + 1 + (grow PL f (splitA PL l) (a + 1) o).1.length) (o + (grow PL f (splitA PL l) (a + 1) o).2.length)).1),
      (grow PL f (splitA PL l) (a + 1) o).2 ++ (grow PL f (splitB PL l) (a + 1 + (grow PL f (splitA PL l) (a + 1) o).1.length) (o + (grow PL f (splitA PL l) (a + 1) o).2.length)).2) := by rw [grow, if_neg h]

theorem cut_lt {l : List Nat} {s : Cut} (h : IsCut l s) {N : Nat} (hl : ∀ j, j < l.length → l.getD j 0 < N) : (∀ j, j < s.first.length → s.first.getD j 0 < N) ∧ (∀ j, j < s.others.length → s.others.getD j 0 < N) := by
  have hm : ∀ x, x ∈ l → x < N := fun x hx => by
    obtain ⟨j, hj, rfl⟩ := List.getElem_of_mem hx
    have := hl j hj
    rwa [getD_lt _ _ hj] at this
  have hp := h.perm
  exact ⟨fun j hj => hm _ (hp.subset (List.mem_append_left _ (by rw [getD_lt _ _ hj]; exact List.getElem_mem _))), fun j hj => hm _ (hp.subset (List.mem_append_right _ (by rw [getD_lt _ _ hj]; exact List.getElem_mem _)))⟩

/-- what adding some shapes asks -/
structure AddIn (PL : Nat → Int) (N base gp op pc mb gl ol lc : Nat) (l : List Nat) (ns : List Nd) (od : List Nat) (vn vo : Value) (w : World) : Prop where
  h1 : 1 ≤ l.length
  hm : l.length ≤ 1000
  hlt : ∀ j, j < l.length → l.getD j 0 < N
  hlc : l.length ≤ lc
  hs : base ≤ w.heap.size
  hM : MkAt base w mb (.slice (some ⟨gp, op, none⟩) N pc) PL ns od vn vo
  hp : ∀ j, j < N * 12 → w.cell? ⟨gp, op + j, none⟩ = some (.int .i64 (PL j))
  hgl : gl < w.heap.size
  hg1 : gl ≠ mb
  hg2 : vn.ownBlock ≠ some gl
  hg3 : vo.ownBlock ≠ some gl
  hl : ∀ j, j < l.length → w.cell? ⟨gl, ol + j, none⟩ = some (.int .i64 ((l.getD j 0 : Nat) : Int))
  hb1 : ns.length + 2 * l.length ≤ 100000
  hb2 : od.length + l.length ≤ 100000

def AddOut (PL : Nat → Int) (f N base gp op pc mb : Nat) (l : List Nat) (ns : List Nd) (od : List Nat) (vn vo : Value) (w w' : World) : Prop :=
  ∃ vn' vo', MkAt base w' mb (.slice (some ⟨gp, op, none⟩) N pc) PL (ns ++ (grow PL f l ns.length od.length).1) (od ++ (grow PL f l ns.length od.length).2) vn' vo' ∧ Kept base w w' mb vn vo vn' vo'

set_option maxHeartbeats 4000000 in
set_option maxRecDepth 100000 in
theorem add_f (PL : Nat → Int) (N base gp op pc mb : Nat) (hN : N ≤ 1000) (hgp : gp < base) (hmb : base ≤ mb) : ∀ (f : Nat) (l : List Nat), l.length ≤ f → ∀ (gl ol lc : Nat) (ns : List Nd) (od : List Nat) (vn vo : Value) (w : World),
    AddIn PL N base gp op pc mb gl ol lc l ns od vn vo w →
    Calls Try.prog 14 #[.pointer (some ⟨mb, 0, none⟩), .slice (some ⟨gl, ol, none⟩) l.length lc] w fun e w' => e = .returned (.int .i64 (ns.length : Int)) ∧ AddOut PL f N base gp op pc mb l ns od vn vo w w' := by
  intro f
  induction f with
  | zero => intro l hf gl ol lc ns od vn vo w h; exact absurd h.h1 (by omega)
  | succ f ih =>

    intro l hf gl ol lc ns od vn vo w hin
    have HIH := Lib.hid ih
    clear ih
    obtain ⟨h1, hm, hlt, hlc, hs, hM, hp, hgl, hg1, hg2, hg3, hl, hb1, hb2⟩ := hin
    obtain ⟨i0, hi, hz0, hz1, hz2⟩ := info_parts infoNodeP
    obtain ⟨j0, ji, jz0, jz1, jz2⟩ := info_parts infoInt1
    have hml := lt_heap hM.blk
    obtain ⟨an, kn, hvn⟩ := own_slice hM.rn
    obtain ⟨ao, ko, hvo⟩ := own_slice hM.ro
    have HBT := Lib.hid (fun (W : World) (hb : Below w.heap.size w W) => both_l PL N l h1 hm hN hlt mb gp op pc gl ol lc hlc vn vo W (by have := hb.size; omega) (by have := hb.size; omega) ((hb.block mb hml).trans hM.blk) (fun j hj => (hb.cell (p := ⟨gp, op + j, none⟩) (by show gp < _; omega)).trans (hp j hj)) (fun j hj => (hb.cell (p := ⟨gl, ol + j, none⟩) hgl).trans (hl j hj)))
    obtain ⟨r0_, hr0_⟩ : ∃ x, x = lo6 (La (pl PL l)) 0 l.length := ⟨_, rfl⟩
    obtain ⟨r1_, hr1_⟩ : ∃ x, x = lo6 (La (pl PL l)) 1 l.length := ⟨_, rfl⟩
    obtain ⟨r2_, hr2_⟩ : ∃ x, x = lo6 (La (pl PL l)) 2 l.length := ⟨_, rfl⟩
    obtain ⟨r3_, hr3_⟩ : ∃ x, x = hi6 (La (pl PL l)) 0 l.length := ⟨_, rfl⟩
    obtain ⟨r4_, hr4_⟩ : ∃ x, x = hi6 (La (pl PL l)) 1 l.length := ⟨_, rfl⟩
    obtain ⟨r5_, hr5_⟩ : ∃ x, x = hi6 (La (pl PL l)) 2 l.length := ⟨_, rfl⟩
    obtain ⟨r6_, hr6_⟩ : ∃ x, x = lo6 (Lb (pl PL l)) 0 l.length := ⟨_, rfl⟩
    obtain ⟨r7_, hr7_⟩ : ∃ x, x = lo6 (Lb (pl PL l)) 1 l.length := ⟨_, rfl⟩
    obtain ⟨r8_, hr8_⟩ : ∃ x, x = lo6 (Lb (pl PL l)) 2 l.length := ⟨_, rfl⟩
    obtain ⟨r9_, hr9_⟩ : ∃ x, x = hi6 (Lb (pl PL l)) 0 l.length := ⟨_, rfl⟩
    obtain ⟨r10_, hr10_⟩ : ∃ x, x = hi6 (Lb (pl PL l)) 1 l.length := ⟨_, rfl⟩
    obtain ⟨r11_, hr11_⟩ : ∃ x, x = hi6 (Lb (pl PL l)) 2 l.length := ⟨_, rfl⟩
    have HP12 := Lib.hid (show pair12 PL l = [r0_, r1_, r2_, r3_, r4_, r5_, r6_, r7_, r8_, r9_, r10_, r11_] from by unfold pair12; rw [hr0_, hr1_, hr2_, hr3_, hr4_, hr5_, hr6_, hr7_, hr8_, hr9_, hr10_, hr11_])
    rw [← hr0_, ← hr1_, ← hr2_, ← hr3_, ← hr4_, ← hr5_, ← hr6_, ← hr7_, ← hr8_, ← hr9_, ← hr10_, ← hr11_] at HBT
    have HM := Lib.hid hM
    have HPP := Lib.hid hp
    have HLL := Lib.hid hl
    have HLT := Lib.hid hlt
    have HG1 := Lib.hid hg1
    have HG2 := Lib.hid hg2
    have HG3 := Lib.hid hg3
    have HX2 := Lib.hid (fun (a b c d : Int) => show ∀ u ∈ ([.int .i64 r0_, .int .i64 r1_, .int .i64 r2_, .int .i64 r3_, .int .i64 r4_, .int .i64 r5_, .int .i64 r6_, .int .i64 r7_, .int .i64 r8_, .int .i64 r9_, .int .i64 r10_, .int .i64 r11_, .int .i64 a, .int .i64 b, .int .i64 c, .int .i64 d] : List Value), u.oneCell' = true by intro u hu; simp only [List.mem_cons, List.not_mem_nil, or_false] at hu; rcases hu with rfl | rfl | rfl | rfl | rfl | rfl | rfl | rfl | rfl | rfl | rfl | rfl | rfl | rfl | rfl | rfl <;> rfl)
    have HNW := Lib.hid (fun (a b c d : Int) => show ((⟨l, a, b, c, d⟩ : Nd).nums PL).map (fun x => Value.int .i64 x) = [.int .i64 r0_, .int .i64 r1_, .int .i64 r2_, .int .i64 r3_, .int .i64 r4_, .int .i64 r5_, .int .i64 r6_, .int .i64 r7_, .int .i64 r8_, .int .i64 r9_, .int .i64 r10_, .int .i64 r11_, .int .i64 a, .int .i64 b, .int .i64 c, .int .i64 d] by unfold Nd.nums; rw [HP12.out]; rfl)
    have hbn : ns.length ≤ 100000 := by omega
    have hbo : od.length ≤ 100000 := by omega
    obtain ⟨bn, hbnn⟩ : ∃ b, b = ns.length := ⟨_, rfl⟩
    obtain ⟨bo, hboo⟩ : ∃ b, b = od.length := ⟨_, rfl⟩
    obtain ⟨bl, hbll⟩ : ∃ b, b = l.length := ⟨_, rfl⟩
    have HVN := Lib.hid hvn
    have HVO := Lib.hid hvo
    have hmbrow := hM.blk
    rw [hvn, hvo] at hmbrow
    rw [← hbnn, ← hboo] at hmbrow
    rw [← hbnn, ← hbll]
    rw [← hbll] at HBT
    have HBN := Lib.hid hbnn
    have HBO := Lib.hid hboo
    have HBL := Lib.hid hbll
    have hB1 : bn + 2 * bl ≤ 100000 := by omega
    have hB2 : bo + bl ≤ 100000 := by omega
    have h1b : 1 ≤ bl := by omega
    have hmbl : bl ≤ 1000 := by omega
    have hlcb : bl ≤ lc := by omega
    have hfb : bl ≤ f + 1 := by omega
    clear hp hl hlt hg1 hg2 hg3 hr0_ hr1_ hr2_ hr3_ hr4_ hr5_ hr6_ hr7_ hr8_ hr9_ hr10_ hr11_ hvn hvo hM hb1 hb2 hbn hbo hbnn hboo hbll hf hm h1 hlc
    have c0 := cell_of_row _ _ 0 _ _ _ hmbrow
    simp at c0
    go_enter Try.func14, Try.ntmps14
    by_cases h4 : bl ≤ 4
    · have h4i : (bl : Int) ≤ 4 := by omega
      go_upto_region 3 with fail
    
      clear c0
      obtain ⟨y0, hy0⟩ : ∃ y0, w = y0 := ⟨_, rfl⟩
      have HU0 := Lib.hid (show Below w.heap.size w y0 by rw [← hy0]; exact Below.refl _ _)
      have hr0_0 : y0.heap[mb]? = some (.cells #[.slice an bn kn, .slice ao bo ko, .slice (some ⟨gp, op, none⟩) N pc] 58 (0, 0)) := by rw [← hy0]; exact hmbrow
      rw [hy0]
      clear hy0
      refine Ol.way_drew (S := fun y => y.heap[mb]? = some (.cells #[.slice an bn kn, .slice ao bo ko, .slice (some ⟨gp, op, none⟩) N pc] 58 (0, 0))) (stop := 23) (by kernel_rfl) (hr0_0) (fun hS0 => ?_)
      obtain ⟨y1, hy1⟩ : ∃ y, y0.drew = y := ⟨_, rfl⟩
      have HU1 := Lib.hid (show Below w.heap.size w y1 by rw [← hy1]; exact HU0.out.drew)
      have hr1_0 : y1.heap[mb]? = some (.cells #[.slice an bn kn, .slice ao bo ko, .slice (some ⟨gp, op, none⟩) N pc] 58 (0, 0)) := by rw [← hy1]; exact hr0_0
      rw [hy1] at hS0 ⊢
      clear hy1
      refine Ol.way_plain (i := 0) (v := ?_) rfl (by kernel_rfl) (by kernel_rfl) (by kernel_rfl) (fun _ _ _ h => h) (by decide) (Or.inl ⟨by kernel_rfl, by (intro wz _; go_simp; try with_reducible rfl)⟩) (Ol.on hS0) ?_
      go_simp
      refine Ol.way_plain (i := 1) (v := ?_) rfl (by kernel_rfl) (by kernel_rfl) (by kernel_rfl) (fun _ _ _ h => h) (by decide) (Or.inl ⟨by kernel_rfl, by (intro wz _; go_simp; try with_reducible rfl)⟩) (Ol.on hS0) ?_
      go_simp
      refine Ol.way_plain (i := 2) (v := ?_) rfl (by kernel_rfl) (by kernel_rfl) (by kernel_rfl) (fun _ _ _ h => h) (by decide) (Or.inl ⟨by kernel_rfl, by (intro wz _; go_simp; try with_reducible rfl)⟩) (Ol.on hS0) ?_
      go_simp
      refine Ol.way_plain (i := 3) (v := ?_) rfl (by kernel_rfl) (by kernel_rfl) (by kernel_rfl) (fun _ _ _ h => h) (by decide) (Or.inl ⟨by kernel_rfl, by (intro wz _; go_simp; try with_reducible rfl)⟩) (Ol.on hS0) ?_
      go_simp
      refine Ol.way_plain (i := 4) (v := ?_) rfl (by kernel_rfl) (by kernel_rfl) (by kernel_rfl) (fun _ _ _ h => h) (by decide) (Or.inl ⟨by kernel_rfl, by (intro wz _; go_simp; try with_reducible rfl)⟩) (Ol.on hS0) ?_
      go_simp
      refine Ol.way_take (i := 5) (v := ?_) rfl (by kernel_rfl) (by kernel_rfl) (by kernel_rfl) (fun _ _ _ h => h) (by decide) (by kernel_rfl) (by kernel_rfl) (Or.inl ⟨by kernel_rfl, by (intro wz hSz; have c0_0 := cell_of_row _ _ 0 _ _ _ hSz; have c0_1 := cell_of_row _ _ 1 _ _ _ hSz; have c0_2 := cell_of_row _ _ 2 _ _ _ hSz; simp at c0_0 c0_1 c0_2; go_simp; try with_reducible rfl)⟩) hS0 ?_
      go_simp
      refine Ol.way_plain (i := 6) (v := ?_) rfl (by kernel_rfl) (by kernel_rfl) (by kernel_rfl) (fun _ _ _ h => h) (by decide) (Or.inl ⟨by kernel_rfl, by (intro wz _; go_simp; try with_reducible rfl)⟩) (Ol.on hS0) ?_
      go_simp
      refine Ol.way_plain (i := 7) (v := ?_) rfl (by kernel_rfl) (by kernel_rfl) (by kernel_rfl) (fun _ _ _ h => h) (by decide) (Or.inl ⟨by kernel_rfl, by (intro wz _; go_simp; try with_reducible rfl)⟩) (Ol.on hS0) ?_
      go_simp
      refine Ol.way_plain (i := 9) (v := ?_) rfl (by kernel_rfl) (by kernel_rfl) (by kernel_rfl) (fun _ _ _ h => h) (by decide) (Or.inl ⟨by kernel_rfl, by (intro wz _; go_simp; try with_reducible rfl)⟩) (Ol.on hS0) ?_
      go_simp
      refine Ol.way_plain (i := 10) (v := ?_) rfl (by kernel_rfl) (by kernel_rfl) (by kernel_rfl) (fun _ _ _ h => h) (by decide) (Or.inl ⟨by kernel_rfl, by (intro wz _; go_simp; try with_reducible rfl)⟩) (Ol.on hS0) ?_
      go_simp
      refine Ol.way_plain (i := 11) (v := ?_) rfl (by kernel_rfl) (by kernel_rfl) (by kernel_rfl) (fun _ _ _ h => h) (by decide) (Or.inl ⟨by kernel_rfl, by (intro wz _; go_simp; try with_reducible rfl)⟩) (Ol.on hS0) ?_
      go_simp
      refine Ol.way_plain (i := 12) (v := ?_) rfl (by kernel_rfl) (by kernel_rfl) (by kernel_rfl) (fun _ _ _ h => h) (by decide) (Or.inl ⟨by kernel_rfl, by (intro wz _; go_simp; try with_reducible rfl)⟩) (Ol.on hS0) ?_
      go_simp
      refine Ol.way_take (i := 13) (v := ?_) rfl (by kernel_rfl) (by kernel_rfl) (by kernel_rfl) (fun _ _ _ h => h) (by decide) (by kernel_rfl) (by kernel_rfl) (Or.inl ⟨by kernel_rfl, by (intro wz hSz; have c0_0 := cell_of_row _ _ 0 _ _ _ hSz; have c0_1 := cell_of_row _ _ 1 _ _ _ hSz; have c0_2 := cell_of_row _ _ 2 _ _ _ hSz; simp at c0_0 c0_1 c0_2; go_simp; try with_reducible rfl)⟩) hS0 ?_
      go_simp
      refine Ol.way_plain (i := 14) (v := ?_) rfl (by kernel_rfl) (by kernel_rfl) (by kernel_rfl) (fun _ _ _ h => h) (by decide) (Or.inl ⟨by kernel_rfl, by (intro wz _; go_simp; try with_reducible rfl)⟩) (Ol.on hS0) ?_
      go_simp
      refine Ol.way_plain (i := 15) (v := ?_) rfl (by kernel_rfl) (by kernel_rfl) (by kernel_rfl) (fun _ _ _ h => h) (by decide) (Or.inl ⟨by kernel_rfl, by (intro wz _; go_simp; try with_reducible rfl)⟩) (Ol.on hS0) ?_
      go_simp
      refine Ol.way_plain (i := 16) (v := ?_) rfl (by kernel_rfl) (by kernel_rfl) (by kernel_rfl) (fun _ _ _ h => h) (by decide) (Or.inl ⟨by kernel_rfl, by (intro wz _; go_simp; try with_reducible rfl)⟩) (Ol.on hS0) ?_
      go_simp
      refine Ol.way_ready (rs := [8]) (by kernel_rfl) (by simp) ?_
      refine Ol.Each.cons rfl (fun K hK => ?_) Ol.Each.nil
      go_simp
      go_wp2_with (go_at_call 18; refine (HBT.out _ HU1.out).mono ?_; rintro e y2 ⟨rfl, hb2⟩)
      have hr2_0 := (hb2.block _ (lt_heap hr1_0)).trans hr1_0
      have HU2 := Lib.hid (HU1.out.trans (hb2.mono HU1.out.size))
      refine Ol.keep hK _ _ ((hb2.block _ (lt_heap hS0)).trans hS0) (fun hS2c => ?_)
      clear hK K
      refine Ol.way_plain (i := 17) (v := ?_) rfl (by kernel_rfl) (by kernel_rfl) (by kernel_rfl) (fun _ _ _ h => h) (by decide) (Or.inl ⟨by kernel_rfl, by (intro wz _; go_simp; try with_reducible rfl)⟩) (Ol.on hS2c) ?_
      go_simp
      refine Ol.way_ready (rs := [18]) (by kernel_rfl) (by simp) ?_
      refine Ol.Each.cons rfl (fun K hK => ?_) Ol.Each.nil
      go_simp
      have hb3 := below_n1 y2 (.cells #[.int .i64 r0_, .int .i64 r1_, .int .i64 r2_, .int .i64 r3_, .int .i64 r4_, .int .i64 r5_, .int .i64 r6_, .int .i64 r7_, .int .i64 r8_, .int .i64 r9_, .int .i64 r10_, .int .i64 r11_, .int .i64 (-1), .int .i64 (-1), .int .i64 (bo : Int), .int .i64 (bl : Int)] 45)
      have hN := heap_alloc_last y2 (.cells #[.int .i64 r0_, .int .i64 r1_, .int .i64 r2_, .int .i64 r3_, .int .i64 r4_, .int .i64 r5_, .int .i64 r6_, .int .i64 r7_, .int .i64 r8_, .int .i64 r9_, .int .i64 r10_, .int .i64 r11_, .int .i64 (-1), .int .i64 (-1), .int .i64 (bo : Int), .int .i64 (bl : Int)] 45)
      obtain ⟨y3, hy3⟩ : ∃ y, y2.alloc (.cells #[.int .i64 r0_, .int .i64 r1_, .int .i64 r2_, .int .i64 r3_, .int .i64 r4_, .int .i64 r5_, .int .i64 r6_, .int .i64 r7_, .int .i64 r8_, .int .i64 r9_, .int .i64 r10_, .int .i64 r11_, .int .i64 (-1), .int .i64 (-1), .int .i64 (bo : Int), .int .i64 (bl : Int)] 45) = y := ⟨_, rfl⟩
      rw [hy3] at hb3 hN ⊢
      clear hy3
      have hl3_0 := lt_heap hr2_0
      have hr3_0 := (hb3.block _ (lt_heap hr2_0)).trans hr2_0
      have hr3_1 := hN
      clear hN
      have HU3 := Lib.hid (HU2.out.trans (hb3.mono HU2.out.size))
      refine Ol.keep hK _ _ ((hb3.block _ (lt_heap hS2c)).trans hS2c) (fun hS3a => ?_)
      clear hK K
      refine Ol.way_ready (rs := [19]) (by kernel_rfl) (by simp) ?_
      refine Ol.Each.cons rfl (fun K hK => ?_) Ol.Each.nil
      have hsm := HU3.out.size
      have HMm := Lib.hid (HM.out.on HU3.out)
      have hown0 := HMm.out.rn
      rw [HVN.out, ← HBN.out] at hown0
      refine step_append_lies _ rfl _ _ 24 rfl base 45 i0 (.agg #[.int .i64 0, .int .i64 0, .int .i64 0, .int .i64 0, .int .i64 0, .int .i64 0, .int .i64 0, .int .i64 0, .int .i64 0, .int .i64 0, .int .i64 0, .int .i64 0, .int .i64 0, .int .i64 0, .int .i64 0, .int .i64 0]) 16 128 Try.underlying24 hi hz0 hz1 hz2 rfl (by decide) _ _ _ (by first | rfl | (go_simp; done) | (go_simp; rfl)) hown0 ⟨y2.heap.size, 0, none⟩ 1 1 [.int .i64 r0_, .int .i64 r1_, .int .i64 r2_, .int .i64 r3_, .int .i64 r4_, .int .i64 r5_, .int .i64 r6_, .int .i64 r7_, .int .i64 r8_, .int .i64 r9_, .int .i64 r10_, .int .i64 r11_, .int .i64 (-1), .int .i64 (-1), .int .i64 (bo : Int), .int .i64 (bl : Int)] (by first | rfl | (go_simp; done) | (go_simp; rfl)) rfl (news_row hr3_1) (HX2.out (-1) (-1) ((bo : Int)) ((bl : Int))) (by decide) (by unfold maxLen; omega) (by omega) (by omega) _ rfl ?_
      intro gN capN y4 hown hgrow hat hltN
      obtain ⟨hmk0, hM1, hK1⟩ := mk_nodes (nd := ⟨l, -1, -1, (bo : Int), (bl : Int)⟩) (v2 := .slice (some ⟨gN, 0, none⟩) (bn + 1) capN) HMm.out hmb (by omega) (by rw [HNW.out, ← HBN.out]; exact hown) (by rw [HVN.out, ← HBN.out]; exact hgrow) (fun q hq => by
        have e : some gN = some q := hq
        injection e with e
        rw [← e, HVN.out, ← HBN.out]
        rcases hat with h | h
        · exact Or.inl h
        · exact Or.inr (by omega))
      rw [HVN.out, HVO.out, ← HBN.out, ← HBO.out] at hmk0
      have hKt := (Kept.of (base := base) (mb := mb) (vn := vn) (vo := vo) HU3.out (by omega)).trans hK1
      clear hown hgrow hat hown0 hK1
      refine Ol.keep hK _ _ (hmk0) (fun hSapp => ?_)
      clear hK K
      refine Ol.way_plain (i := 20) (v := ?_) rfl (by kernel_rfl) (by kernel_rfl) (by kernel_rfl) (fun _ _ _ h => h) (by decide) (Or.inl ⟨by kernel_rfl, by (intro wz _; go_simp; try with_reducible rfl)⟩) (Ol.on hSapp) ?_
      go_simp
      refine Ol.way_plain (i := 21) (v := ?_) rfl (by kernel_rfl) (by kernel_rfl) (by kernel_rfl) (fun _ _ _ h => h) (by decide) (Or.inl ⟨by kernel_rfl, by (intro wz _; go_simp; try with_reducible rfl)⟩) (Ol.on hSapp) ?_
      go_simp
      refine Ol.way_plain (i := 22) (v := ?_) rfl (by kernel_rfl) (by kernel_rfl) (by kernel_rfl) (fun _ _ _ h => h) (by decide) (Or.inl ⟨by kernel_rfl, by (intro wz _; go_simp; try with_reducible rfl)⟩) (Ol.on hSapp) ?_
      go_simp
      refine Ol.way_ready (rs := [23]) (by kernel_rfl) (by simp) ?_
      refine Ol.Each.cons rfl (fun K hK => ?_) Ol.Each.nil
      have p0 := cell_of_row _ _ 0 _ _ _ hmk0
      simp at p0
      have fz : ∀ j, y4.frozen? ⟨mb, j, none⟩ = false := fun j => by simp [World.frozen?, hmk0]
      go_simp
      clear fz p0
      obtain ⟨yA, hyA⟩ : ∃ y, y4.setCell ⟨mb, 0, none⟩ (.slice (some ⟨gN, 0, none⟩) (bn + 1) capN) = y := ⟨_, rfl⟩
      rw [hyA] at hM1 hKt ⊢
      clear hyA hmk0
      refine Ol.past hK (by kernel_rfl) _ _ ?_
      clear hK K
      refine Ol.way_done (by kernel_rfl) ?_ _
      have HM1 := Lib.hid hM1
      have HK1 := Lib.hid hKt
      have hsA := hKt.below.size
      have hlA : ∀ j, j < l.length → yA.cell? ⟨gl, ol + j, none⟩ = some (.int .i64 ((l.getD j 0 : Nat) : Int)) := fun j hj => (World.cell?_of_block (w := w) (a := ⟨gl, ol + j, none⟩) (hKt.other gl hgl HG1.out HG2.out HG3.out)).trans (HLL.out j hj)
      have HNL := Lib.hid (news_list hlA)
      have hrowA := hM1.blk
      rw [HVO.out, ← HBO.out] at hrowA
      have hownO := hM1.ro
      rw [HVO.out, ← HBO.out] at hownO
      have HOO := Lib.hid hownO
      have c1 := cell_of_row _ _ 1 _ _ _ hrowA
      simp at c1
      have HRA := Lib.hid hrowA
      have HNV := Lib.hid (show (nv l).length = bl * 1 from by rw [HBL.out]; exact nv_len l)
      clear hM1 hKt hlA hrowA hownO hS0 hSapp
      go_wp2_with (first | (at_builtin; refine wpList_append_own_at _ rfl _ _ 25 rfl base 3 j0 (.int .i64 0) 1 8 Try.underlying25 ji jz0 jz1 jz2 rfl (by decide) _ _ _ rfl HOO.out ⟨gl, ol, none⟩ bl lc (nv l) rfl HNV.out HNL.out (nv_one l) ?c3 ?c4 ?c5 ?_))
      case c3 => unfold maxLen; omega
      case c4 => omega
      case c5 => omega
      intro v3 w3 hown3 hgrow3 _ hat3
      obtain ⟨a3, k3, rfl⟩ := own_slice hown3
      obtain ⟨hmk3, hM3, hK3⟩ := mk_order (l := l) HM1.out hmb (by have := HM1.out; omega) (by rw [← HBO.out, ← HBL.out]; exact hown3) (by rw [HVO.out, ← HBO.out]; exact hgrow3) (fun q hq => by
        rw [HVO.out, ← HBO.out]
        rcases hat3 with h | h
        · exact Or.inl (h ▸ hq)
        · rw [h] at hq; injection hq with e; exact Or.inr (by omega))
      have HM3 := Lib.hid hM3
      have HK3 := Lib.hid (HK1.out.trans hK3)
      have p1 := cell_of_row _ _ 1 _ _ _ hmk3
      simp at p1
      have fz : ∀ j, w3.frozen? ⟨mb, j, none⟩ = false := fun j => by simp [World.frozen?, hmk3]
      clear hM3 hK3 hown3 hgrow3 hat3 c1 hmk3
      go_wp2_with fail
      go_ret
      refine ⟨rfl, _, _, ?_, HK3.out⟩
      rw [grow_leaf _ _ _ _ _ (by rw [← HBL.out]; exact h4)]
      rw [← HBO.out, ← HBL.out]
      exact HM3.out
    · have h4i : ¬ (bl : Int) ≤ 4 := by omega
      go_upto_region 6 with fail
      clear c0
      obtain ⟨y0, hy0⟩ : ∃ y0, w = y0 := ⟨_, rfl⟩
      have HU0 := Lib.hid (show Below w.heap.size w y0 by rw [← hy0]; exact Below.refl _ _)
      have hr0_0 : y0.heap[mb]? = some (.cells #[.slice an bn kn, .slice ao bo ko, .slice (some ⟨gp, op, none⟩) N pc] 58 (0, 0)) := by rw [← hy0]; exact hmbrow
      rw [hy0]
      clear hy0
      refine Ol.way_drew (S := fun y => y.heap[mb]? = some (.cells #[.slice an bn kn, .slice ao bo ko, .slice (some ⟨gp, op, none⟩) N pc] 58 (0, 0))) (stop := 15) (by kernel_rfl) (hr0_0) (fun hS0 => ?_)
      obtain ⟨y1, hy1⟩ : ∃ y, y0.drew = y := ⟨_, rfl⟩
      have HU1 := Lib.hid (show Below w.heap.size w y1 by rw [← hy1]; exact HU0.out.drew)
      have hr1_0 : y1.heap[mb]? = some (.cells #[.slice an bn kn, .slice ao bo ko, .slice (some ⟨gp, op, none⟩) N pc] 58 (0, 0)) := by rw [← hy1]; exact hr0_0
      rw [hy1] at hS0 ⊢
      clear hy1
      refine Ol.way_plain (i := 0) (v := ?_) rfl (by kernel_rfl) (by kernel_rfl) (by kernel_rfl) (fun _ _ _ h => h) (by decide) (Or.inl ⟨by kernel_rfl, by (intro wz _; go_simp; try with_reducible rfl)⟩) (Ol.on hS0) ?_
      go_simp
      refine Ol.way_plain (i := 1) (v := ?_) rfl (by kernel_rfl) (by kernel_rfl) (by kernel_rfl) (fun _ _ _ h => h) (by decide) (Or.inl ⟨by kernel_rfl, by (intro wz _; go_simp; try with_reducible rfl)⟩) (Ol.on hS0) ?_
      go_simp
      refine Ol.way_plain (i := 2) (v := ?_) rfl (by kernel_rfl) (by kernel_rfl) (by kernel_rfl) (fun _ _ _ h => h) (by decide) (Or.inl ⟨by kernel_rfl, by (intro wz _; go_simp; try with_reducible rfl)⟩) (Ol.on hS0) ?_
      go_simp
      refine Ol.way_plain (i := 3) (v := ?_) rfl (by kernel_rfl) (by kernel_rfl) (by kernel_rfl) (fun _ _ _ h => h) (by decide) (Or.inl ⟨by kernel_rfl, by (intro wz _; go_simp; try with_reducible rfl)⟩) (Ol.on hS0) ?_
      go_simp
      refine Ol.way_plain (i := 4) (v := ?_) rfl (by kernel_rfl) (by kernel_rfl) (by kernel_rfl) (fun _ _ _ h => h) (by decide) (Or.inl ⟨by kernel_rfl, by (intro wz _; go_simp; try with_reducible rfl)⟩) (Ol.on hS0) ?_
      go_simp
      refine Ol.way_take (i := 5) (v := ?_) rfl (by kernel_rfl) (by kernel_rfl) (by kernel_rfl) (fun _ _ _ h => h) (by decide) (by kernel_rfl) (by kernel_rfl) (Or.inl ⟨by kernel_rfl, by (intro wz hSz; have c0_0 := cell_of_row _ _ 0 _ _ _ hSz; have c0_1 := cell_of_row _ _ 1 _ _ _ hSz; have c0_2 := cell_of_row _ _ 2 _ _ _ hSz; simp at c0_0 c0_1 c0_2; go_simp; try with_reducible rfl)⟩) hS0 ?_
      go_simp
      refine Ol.way_plain (i := 6) (v := ?_) rfl (by kernel_rfl) (by kernel_rfl) (by kernel_rfl) (fun _ _ _ h => h) (by decide) (Or.inl ⟨by kernel_rfl, by (intro wz _; go_simp; try with_reducible rfl)⟩) (Ol.on hS0) ?_
      go_simp
      refine Ol.way_plain (i := 7) (v := ?_) rfl (by kernel_rfl) (by kernel_rfl) (by kernel_rfl) (fun _ _ _ h => h) (by decide) (Or.inl ⟨by kernel_rfl, by (intro wz _; go_simp; try with_reducible rfl)⟩) (Ol.on hS0) ?_
      go_simp
      refine Ol.way_ready (rs := [8]) (by kernel_rfl) (by simp) ?_
      refine Ol.Each.cons rfl (fun K hK => ?_) Ol.Each.nil
      go_simp
      go_wp2_with (go_at_call 18; refine (HBT.out _ HU1.out).mono ?_; rintro e y2 ⟨rfl, hb2⟩)
      have hr2_0 := (hb2.block _ (lt_heap hr1_0)).trans hr1_0
      have HU2 := Lib.hid (HU1.out.trans (hb2.mono HU1.out.size))
      refine Ol.keep hK _ _ ((hb2.block _ (lt_heap hS0)).trans hS0) (fun hS2c => ?_)
      clear hK K
      refine Ol.way_plain (i := 9) (v := ?_) rfl (by kernel_rfl) (by kernel_rfl) (by kernel_rfl) (fun _ _ _ h => h) (by decide) (Or.inl ⟨by kernel_rfl, by (intro wz _; go_simp; try with_reducible rfl)⟩) (Ol.on hS2c) ?_
      go_simp
      refine Ol.way_ready (rs := [10]) (by kernel_rfl) (by simp) ?_
      refine Ol.Each.cons rfl (fun K hK => ?_) Ol.Each.nil
      go_simp
      have hb3 := below_n1 y2 (.cells #[.int .i64 r0_, .int .i64 r1_, .int .i64 r2_, .int .i64 r3_, .int .i64 r4_, .int .i64 r5_, .int .i64 r6_, .int .i64 r7_, .int .i64 r8_, .int .i64 r9_, .int .i64 r10_, .int .i64 r11_, .int .i64 0, .int .i64 0, .int .i64 0, .int .i64 0] 45)
      have hN := heap_alloc_last y2 (.cells #[.int .i64 r0_, .int .i64 r1_, .int .i64 r2_, .int .i64 r3_, .int .i64 r4_, .int .i64 r5_, .int .i64 r6_, .int .i64 r7_, .int .i64 r8_, .int .i64 r9_, .int .i64 r10_, .int .i64 r11_, .int .i64 0, .int .i64 0, .int .i64 0, .int .i64 0] 45)
      obtain ⟨y3, hy3⟩ : ∃ y, y2.alloc (.cells #[.int .i64 r0_, .int .i64 r1_, .int .i64 r2_, .int .i64 r3_, .int .i64 r4_, .int .i64 r5_, .int .i64 r6_, .int .i64 r7_, .int .i64 r8_, .int .i64 r9_, .int .i64 r10_, .int .i64 r11_, .int .i64 0, .int .i64 0, .int .i64 0, .int .i64 0] 45) = y := ⟨_, rfl⟩
      rw [hy3] at hb3 hN ⊢
      clear hy3
      have hl3_0 := lt_heap hr2_0
      have hr3_0 := (hb3.block _ (lt_heap hr2_0)).trans hr2_0
      have hr3_1 := hN
      clear hN
      have HU3 := Lib.hid (HU2.out.trans (hb3.mono HU2.out.size))
      refine Ol.keep hK _ _ ((hb3.block _ (lt_heap hS2c)).trans hS2c) (fun hS3a => ?_)
      clear hK K
      refine Ol.way_ready (rs := [11]) (by kernel_rfl) (by simp) ?_
      refine Ol.Each.cons rfl (fun K hK => ?_) Ol.Each.nil
      have hsm := HU3.out.size
      have HMm := Lib.hid (HM.out.on HU3.out)
      have hown0 := HMm.out.rn
      rw [HVN.out, ← HBN.out] at hown0
      refine step_append_lies _ rfl _ _ 24 rfl base 45 i0 (.agg #[.int .i64 0, .int .i64 0, .int .i64 0, .int .i64 0, .int .i64 0, .int .i64 0, .int .i64 0, .int .i64 0, .int .i64 0, .int .i64 0, .int .i64 0, .int .i64 0, .int .i64 0, .int .i64 0, .int .i64 0, .int .i64 0]) 16 128 Try.underlying24 hi hz0 hz1 hz2 rfl (by decide) _ _ _ (by first | rfl | (go_simp; done) | (go_simp; rfl)) hown0 ⟨y2.heap.size, 0, none⟩ 1 1 [.int .i64 r0_, .int .i64 r1_, .int .i64 r2_, .int .i64 r3_, .int .i64 r4_, .int .i64 r5_, .int .i64 r6_, .int .i64 r7_, .int .i64 r8_, .int .i64 r9_, .int .i64 r10_, .int .i64 r11_, .int .i64 0, .int .i64 0, .int .i64 0, .int .i64 0] (by first | rfl | (go_simp; done) | (go_simp; rfl)) rfl (news_row hr3_1) (HX2.out (0) (0) (0) (0)) (by decide) (by unfold maxLen; omega) (by omega) (by omega) _ rfl ?_
      intro gN capN y4 hown hgrow hat hltN
      obtain ⟨hmk0, hM1, hK1⟩ := mk_nodes (nd := ⟨l, 0, 0, 0, 0⟩) (v2 := .slice (some ⟨gN, 0, none⟩) (bn + 1) capN) HMm.out hmb (by omega) (by rw [HNW.out, ← HBN.out]; exact hown) (by rw [HVN.out, ← HBN.out]; exact hgrow) (fun q hq => by
        have e : some gN = some q := hq
        injection e with e
        rw [← e, HVN.out, ← HBN.out]
        rcases hat with h | h
        · exact Or.inl h
        · exact Or.inr (by omega))
      rw [HVN.out, HVO.out, ← HBN.out, ← HBO.out] at hmk0
      have hKt := (Kept.of (base := base) (mb := mb) (vn := vn) (vo := vo) HU3.out (by omega)).trans hK1
      clear hown hgrow hat hown0 hK1
      refine Ol.keep hK _ _ (hmk0) (fun hSapp => ?_)
      clear hK K
      refine Ol.way_plain (i := 12) (v := ?_) rfl (by kernel_rfl) (by kernel_rfl) (by kernel_rfl) (fun _ _ _ h => h) (by decide) (Or.inl ⟨by kernel_rfl, by (intro wz _; go_simp; try with_reducible rfl)⟩) (Ol.on hSapp) ?_
      go_simp
      refine Ol.way_plain (i := 13) (v := ?_) rfl (by kernel_rfl) (by kernel_rfl) (by kernel_rfl) (fun _ _ _ h => h) (by decide) (Or.inl ⟨by kernel_rfl, by (intro wz _; go_simp; try with_reducible rfl)⟩) (Ol.on hSapp) ?_
      go_simp
      refine Ol.way_plain (i := 14) (v := ?_) rfl (by kernel_rfl) (by kernel_rfl) (by kernel_rfl) (fun _ _ _ h => h) (by decide) (Or.inl ⟨by kernel_rfl, by (intro wz _; go_simp; try with_reducible rfl)⟩) (Ol.on hSapp) ?_
      go_simp
      refine Ol.way_ready (rs := [15]) (by kernel_rfl) (by simp) ?_
      refine Ol.Each.cons rfl (fun K hK => ?_) Ol.Each.nil
      have p0 := cell_of_row _ _ 0 _ _ _ hmk0
      simp at p0
      have fz : ∀ j, y4.frozen? ⟨mb, j, none⟩ = false := fun j => by simp [World.frozen?, hmk0]
      go_simp
      clear fz p0
      obtain ⟨yA, hyA⟩ : ∃ y, y4.setCell ⟨mb, 0, none⟩ (.slice (some ⟨gN, 0, none⟩) (bn + 1) capN) = y := ⟨_, rfl⟩
      rw [hyA] at hM1 hKt ⊢
      clear hyA hmk0
      refine Ol.past hK (by kernel_rfl) _ _ ?_
      clear hK K
      refine Ol.way_done (by kernel_rfl) ?_ _
      have HM1 := Lib.hid hM1
      have HK1 := Lib.hid hKt
      have hsA := hKt.below.size
      have hlA : ∀ j, j < l.length → yA.cell? ⟨gl, ol + j, none⟩ = some (.int .i64 ((l.getD j 0 : Nat) : Int)) := fun j hj => (World.cell?_of_block (w := w) (a := ⟨gl, ol + j, none⟩) (hKt.other gl hgl HG1.out HG2.out HG3.out)).trans (HLL.out j hj)
      have hpA : ∀ j, j < N * 12 → yA.cell? ⟨gp, op + j, none⟩ = some (.int .i64 (PL j)) := fun j hj => (hKt.below.cell (p := ⟨gp, op + j, none⟩) hgp).trans (HPP.out j hj)
      have hbl := HBL.out
      have hsp := split_l PL N l (by omega) (by omega) hN HLT.out mb gp op pc gl ol lc (by omega) (.slice (some ⟨gN, 0, none⟩) (bn + 1) capN) vo yA (by omega) (by omega) hM1.blk hpA hlA
      have hcut := isCut PL l (by omega)
      have hlts := cut_lt hcut HLT.out
      have hcs := hcut.sum
      have hca1 := hcut.a1
      have hcb1 := hcut.b1
      obtain ⟨A, hA⟩ : ∃ A, A = splitA PL l := ⟨_, rfl⟩
      obtain ⟨C, hC⟩ : ∃ C, C = splitB PL l := ⟨_, rfl⟩
      rw [show (cutsN PL l (partOf PL l) 7).first = A from hA.symm] at hcs hca1 hlts
      rw [show (cutsN PL l (partOf PL l) 7).others = C from hC.symm] at hcs hcb1 hlts
      rw [← hA, ← hC] at hsp
      rw [← hbl] at hsp hcs
      have HSP := Lib.hid hsp
      have HA := Lib.hid hA
      have HC := Lib.hid hC
      have HLA := Lib.hid hlts
      have HPA := Lib.hid hpA
      have hgNlt : gN < yA.heap.size := (hM1.rn.lt gN rfl).2
      have hmbA := lt_heap hM1.blk
      clear hsp hcut hlts hA hC hpA hlA hM1 hKt hS0 hSapp hbl
      go_wp2_with fail
      refine HSP.out.mono ?_
      rintro e yB ⟨⟨va, vb, rfl, hLa, hLb⟩, hbB⟩
      obtain ⟨ga, oa, ca, rfl, hcca, hga, hPa, hcla⟩ := hLa
      obtain ⟨gc, oc, cc, rfl, hccc, hgc, hPc, hclc⟩ := hLb
      have HMB := Lib.hid (HM1.out.on hbB)
      have HKB := Lib.hid (HK1.out.trans (Kept.of (mb := mb) (vn := .slice (some ⟨gN, 0, none⟩) (bn + 1) capN) (vo := vo) hbB (by omega)))
      have hsB := hbB.size
      have hgne : ∀ g, (g = gl ∨ yA.heap.size ≤ g) → g ≠ mb ∧ Value.ownBlock (.slice (some ⟨gN, 0, none⟩) (bn + 1) capN) ≠ some g ∧ vo.ownBlock ≠ some g := fun g hg => by
        rcases hg with e | e
        · subst e
          refine ⟨HG1.out, fun hq => ?_, HG3.out⟩
          rcases HK1.out.gn _ hq with h | h
          · exact HG2.out h
          · omega
        · refine ⟨by omega, fun hq => ?_, fun hq => ?_⟩
          · have e2 : gN = g := by injection hq
            omega
          · have := (HM1.out.ro.lt g hq).2
            omega
      have hna := hgne ga hPa
      have hnc := hgne gc hPc
      have had1 := HIH.out A (by omega) ga oa ca (ns ++ [⟨l, 0, 0, 0, 0⟩]) od (.slice (some ⟨gN, 0, none⟩) (bn + 1) capN) vo yB ⟨hca1, by omega, HLA.out.1, hcca, by omega, HMB.out, fun j hj => (hbB.cell (p := ⟨gp, op + j, none⟩) (by show gp < _; omega)).trans (HPA.out j hj), hga, hna.1, hna.2.1, hna.2.2, hcla, by rw [List.length_append, ← HBN.out]; simp only [List.length_cons, List.length_nil]; omega, by rw [← HBO.out]; omega⟩
      rw [show (ns ++ [(⟨l, 0, 0, 0, 0⟩ : Nd)]).length = bn + 1 from by rw [List.length_append, ← HBN.out]; rfl] at had1
      obtain ⟨la, hla⟩ : ∃ x, x = A.length := ⟨_, rfl⟩
      obtain ⟨lc2, hlc2⟩ : ∃ x, x = C.length := ⟨_, rfl⟩
      rw [← hla] at had1
      rw [← hla, ← hlc2]
      have HAD := Lib.hid had1
      have HHC := Lib.hid hclc
      have HNC := Lib.hid hnc
      have HHL := Lib.hid hla
      have HHC2 := Lib.hid hlc2
      clear had1 hna hnc hgne hcla hclc hPa hPc hbB hla hlc2
      go_wp2_with fail
      refine HAD.out.mono ?_
      rintro e yC ⟨rfl, v3, o3, hM3, hK3⟩
      have hg1 := grow_len PL f A (bn + 1) bo hca1 (by omega)
      rw [show (ns ++ [(⟨l, 0, 0, 0, 0⟩ : Nd)]).length = bn + 1 from by rw [List.length_append, ← HBN.out]; rfl, ← HBO.out] at hM3
      obtain ⟨GA, hGA⟩ : ∃ x, x = (grow PL f A (bn + 1) bo).1 := ⟨_, rfl⟩
      obtain ⟨OA, hOA⟩ : ∃ x, x = (grow PL f A (bn + 1) bo).2 := ⟨_, rfl⟩
      rw [← hGA, ← hOA] at hM3 hg1
      have hsC := hK3.below.size
      have hgcC : gc < yC.heap.size := by
        have := hK3.below.size
        omega
      have hn3 : v3.ownBlock ≠ some gc := fun hq => by
        rcases hK3.gn gc hq with h | h
        · exact HNC.out.2.1 h
        · omega
      have ho3 : o3.ownBlock ≠ some gc := fun hq => by
        rcases hK3.go gc hq with h | h
        · exact HNC.out.2.2 h
        · omega
      have e0 := HHL.out
      have e1 := HHC2.out
      have hlen2 : (ns ++ [(⟨l, 0, 0, 0, 0⟩ : Nd)] ++ GA).length = bn + 1 + GA.length := by rw [List.length_append, List.length_append, ← HBN.out]; rfl
      have had2 := HIH.out C (by omega) gc oc cc (ns ++ [⟨l, 0, 0, 0, 0⟩] ++ GA) (od ++ OA) v3 o3 yC ⟨hcb1, by omega, HLA.out.2, hccc, by have := hK3.below.size; omega, hM3, fun j hj => (hK3.below.cell (p := ⟨gp, op + j, none⟩) hgp).trans ((HKB.out.below.cell (p := ⟨gp, op + j, none⟩) hgp).trans (HPP.out j hj)), hgcC, HNC.out.1, hn3, ho3, fun j hj => (World.cell?_of_block (w := yB) (a := ⟨gc, oc + j, none⟩) (hK3.other gc hgc HNC.out.1 HNC.out.2.1 HNC.out.2.2)).trans (HHC.out j hj), by rw [hlen2]; omega, by rw [List.length_append, ← HBO.out]; omega⟩
      obtain ⟨gn, hgn⟩ : ∃ x, x = GA.length := ⟨_, rfl⟩
      rw [hlen2, ← hgn, ← e1] at had2
      have hgm1 : 1 ≤ gn := by omega
      have hgm2 : gn ≤ 2000 := by omega
      have HAD2 := Lib.hid had2
      have HGA := Lib.hid hGA
      have HOA := Lib.hid hOA
      have HGN := Lib.hid hgn
      have HLEN := Lib.hid hlen2
      have HOL := Lib.hid hg1.1
      have HKC := Lib.hid (HKB.out.trans hK3)
      clear had2 hGA hOA hgn hlen2 hg1 hM3 hK3 hn3 ho3 e0 e1
      go_wp2_with fail
      refine HAD2.out.mono ?_
      rintro e yD ⟨rfl, v4, o4, hM4, hK4⟩
      rw [HLEN.out, ← HGN.out, List.length_append, ← HBO.out] at hM4
      obtain ⟨GB, hGB⟩ : ∃ x, x = (grow PL f C (bn + 1 + gn) (bo + OA.length)).1 := ⟨_, rfl⟩
      obtain ⟨OB, hOB⟩ : ∃ x, x = (grow PL f C (bn + 1 + gn) (bo + OA.length)).2 := ⟨_, rfl⟩
      rw [← hGB, ← hOB] at hM4
      have hlist : ns ++ [(⟨l, 0, 0, 0, 0⟩ : Nd)] ++ GA ++ GB = ns ++ ⟨l, 0, 0, 0, 0⟩ :: (GA ++ GB) := by simp
      rw [hlist] at hM4
      have hlenM : (ns ++ (⟨l, 0, 0, 0, 0⟩ : Nd) :: (GA ++ GB)).length = bn + 1 + gn + GB.length := by rw [List.length_append, ← HBN.out, List.length_cons, List.length_append, ← HGN.out]; omega
      rcases hM4.rn.2 with ⟨-, hx⟩ | ⟨g4, cap4, cur4, hv4, hg4, hcur4, hn4, -, hsz4, htk4⟩
      · rw [hlenM] at hx
        exact absurd hx (by omega)
      rw [hlenM] at hv4
      subst hv4
      have hK5 := HKC.out.trans hK4
      obtain ⟨gm, hgm⟩ : ∃ x, x = GB.length := ⟨_, rfl⟩
      rw [← hgm] at hM4 hK4 hlenM hK5
      have hbD : base ≤ yD.heap.size := by have := hK5.below.size; omega
      have HLM := Lib.hid hlenM
      rw [hlenM] at hn4
      have HM4 := Lib.hid hM4
      have HK5 := Lib.hid hK5
      have HGB := Lib.hid hGB
      have HOB := Lib.hid hOB
      have HGM := Lib.hid hgm
      have hrow := hM4.blk
      have HRW := Lib.hid hrow
      have HCU := Lib.hid hcur4
      have hml4 := lt_heap hrow
      have hgl4 := lt_heap hcur4
      have hsz5 : bn * 16 + 13 < cur4.size := by
        rw [hsz4]
        omega
      have hgne4 : g4 ≠ mb := fun e => own_ne_blk hM4.rn hM4.blk tne1 (by rw [← e]; rfl)
      clear hGB hOB hK4 hK5 hM4 hlist hlenM hrow hcur4 hn4 hsz4 htk4 hgm
      have hbni : (bn : Int) < (bn : Int) + 1 + gn + gm := by omega
      go_upto_region 9 with fail
      obtain ⟨y0, hy0⟩ : ∃ y0, yD = y0 := ⟨_, rfl⟩
      rw [hy0]
      have hr0_0 : y0.heap[mb]? = some (.cells #[.slice (some ⟨g4, 0, none⟩) (bn + 1 + gn + gm) cap4, o4, .slice (some ⟨gp, op, none⟩) N pc] 58 (0, 0)) := by rw [← hy0]; exact HRW.out
      have hrc : y0.heap[g4]? = some (.cells cur4 45 (0, 0)) := by rw [← hy0]; exact HCU.out
      rw [hy0] at HM4 HK5 hbD
      clear hy0
      have HU0 := Lib.hid (Below.refl y0.heap.size y0)
      refine Ol.way_drew (S := fun y => y.heap[mb]? = some (.cells #[.slice (some ⟨g4, 0, none⟩) (bn + 1 + gn + gm) cap4, o4, .slice (some ⟨gp, op, none⟩) N pc] 58 (0, 0))) (stop := 16) (by kernel_rfl) (hr0_0) (fun hS0 => ?_)
      obtain ⟨y1, hy1⟩ : ∃ y, y0.drew = y := ⟨_, rfl⟩
      have HU1 := Lib.hid (show Below y0.heap.size y0 y1 by rw [← hy1]; exact HU0.out.drew)
      have hr1_0 : y1.heap[mb]? = some (.cells #[.slice (some ⟨g4, 0, none⟩) (bn + 1 + gn + gm) cap4, o4, .slice (some ⟨gp, op, none⟩) N pc] 58 (0, 0)) := by rw [← hy1]; exact hr0_0
      have hrc1 : y1.heap[g4]? = some (.cells cur4 45 (0, 0)) := by rw [← hy1]; exact hrc
      rw [hy1] at hS0 ⊢
      clear hy1
      refine Ol.way_plain (i := 0) (v := ?_) rfl (by kernel_rfl) (by kernel_rfl) (by kernel_rfl) (fun _ _ _ h => h) (by decide) (Or.inl ⟨by kernel_rfl, by (intro wz _; go_simp; try with_reducible rfl)⟩) (Ol.on hS0) ?_
      go_simp
      refine Ol.way_plain (i := 1) (v := ?_) rfl (by kernel_rfl) (by kernel_rfl) (by kernel_rfl) (fun _ _ _ h => h) (by decide) (Or.inl ⟨by kernel_rfl, by (intro wz _; go_simp; try with_reducible rfl)⟩) (Ol.on hS0) ?_
      go_simp
      refine Ol.way_plain (i := 2) (v := ?_) rfl (by kernel_rfl) (by kernel_rfl) (by kernel_rfl) (fun _ _ _ h => h) (by decide) (Or.inl ⟨by kernel_rfl, by (intro wz _; go_simp; try with_reducible rfl)⟩) (Ol.on hS0) ?_
      go_simp
      refine Ol.way_plain (i := 3) (v := ?_) rfl (by kernel_rfl) (by kernel_rfl) (by kernel_rfl) (fun _ _ _ h => h) (by decide) (Or.inl ⟨by kernel_rfl, by (intro wz _; go_simp; try with_reducible rfl)⟩) (Ol.on hS0) ?_
      go_simp
      refine Ol.way_take (i := 4) (v := ?_) rfl (by kernel_rfl) (by kernel_rfl) (by kernel_rfl) (fun _ _ _ h => h) (by decide) (by kernel_rfl) (by kernel_rfl) (Or.inl ⟨by kernel_rfl, by (intro wz hSz; have c0_0 := cell_of_row _ _ 0 _ _ _ hSz; have c0_1 := cell_of_row _ _ 1 _ _ _ hSz; have c0_2 := cell_of_row _ _ 2 _ _ _ hSz; simp at c0_0 c0_1 c0_2; go_simp; try with_reducible rfl)⟩) hS0 ?_
      go_simp
      refine Ol.way_plain (i := 5) (v := ?_) rfl (by kernel_rfl) (by kernel_rfl) (by kernel_rfl) (fun _ _ _ h => h) (by decide) (Or.inl ⟨by kernel_rfl, by (intro wz _; go_simp; try with_reducible rfl)⟩) (Ol.on hS0) ?_
      go_simp
      refine Ol.way_plain (i := 6) (v := ?_) rfl (by kernel_rfl) (by kernel_rfl) (by kernel_rfl) (fun _ _ _ h => h) (by decide) (Or.inl ⟨by kernel_rfl, by (intro wz _; go_simp; try with_reducible rfl)⟩) (Ol.on hS0) ?_
      go_simp
      refine Ol.way_plain (i := 7) (v := ?_) rfl (by kernel_rfl) (by kernel_rfl) (by kernel_rfl) (fun _ _ _ h => h) (by decide) (Or.inl ⟨by kernel_rfl, by (intro wz _; go_simp; try with_reducible rfl)⟩) (Ol.on hS0) ?_
      go_simp
      refine Ol.way_plain (i := 8) (v := ?_) rfl (by kernel_rfl) (by kernel_rfl) (by kernel_rfl) (fun _ _ _ h => h) (by decide) (Or.inl ⟨by kernel_rfl, by (intro wz _; go_simp; try with_reducible rfl)⟩) (Ol.on hS0) ?_
      go_simp
      refine Ol.way_plain (i := 9) (v := ?_) rfl (by kernel_rfl) (by kernel_rfl) (by kernel_rfl) (fun _ _ _ h => h) (by decide) (Or.inl ⟨by kernel_rfl, by (intro wz _; go_simp; try with_reducible rfl)⟩) (Ol.on hS0) ?_
      go_simp
      refine Ol.way_take (i := 10) (v := ?_) rfl (by kernel_rfl) (by kernel_rfl) (by kernel_rfl) (fun _ _ _ h => h) (by decide) (by kernel_rfl) (by kernel_rfl) (Or.inl ⟨by kernel_rfl, by (intro wz hSz; have c0_0 := cell_of_row _ _ 0 _ _ _ hSz; have c0_1 := cell_of_row _ _ 1 _ _ _ hSz; have c0_2 := cell_of_row _ _ 2 _ _ _ hSz; simp at c0_0 c0_1 c0_2; go_simp; try with_reducible rfl)⟩) hS0 ?_
      go_simp
      refine Ol.way_plain (i := 11) (v := ?_) rfl (by kernel_rfl) (by kernel_rfl) (by kernel_rfl) (fun _ _ _ h => h) (by decide) (Or.inl ⟨by kernel_rfl, by (intro wz _; go_simp; try with_reducible rfl)⟩) (Ol.on hS0) ?_
      go_simp
      refine Ol.way_plain (i := 12) (v := ?_) rfl (by kernel_rfl) (by kernel_rfl) (by kernel_rfl) (fun _ _ _ h => h) (by decide) (Or.inl ⟨by kernel_rfl, by (intro wz _; go_simp; try with_reducible rfl)⟩) (Ol.on hS0) ?_
      go_simp
      refine Ol.way_plain (i := 13) (v := ?_) rfl (by kernel_rfl) (by kernel_rfl) (by kernel_rfl) (fun _ _ _ h => h) (by decide) (Or.inl ⟨by kernel_rfl, by (intro wz _; go_simp; try with_reducible rfl)⟩) (Ol.on hS0) ?_
      go_simp
      refine Ol.way_plain (i := 14) (v := ?_) rfl (by kernel_rfl) (by kernel_rfl) (by kernel_rfl) (fun _ _ _ h => h) (by decide) (Or.inl ⟨by kernel_rfl, by (intro wz _; go_simp; try with_reducible rfl)⟩) (Ol.on hS0) ?_
      go_simp
      refine Ol.way_plain (i := 15) (v := ?_) rfl (by kernel_rfl) (by kernel_rfl) (by kernel_rfl) (fun _ _ _ h => h) (by decide) (Or.inl ⟨by kernel_rfl, by (intro wz _; go_simp; try with_reducible rfl)⟩) (Ol.on hS0) ?_
      go_simp
      refine Ol.way_ready (rs := [16]) (by kernel_rfl) (by simp) ?_
      refine Ol.Each.cons rfl (fun K hK => ?_) Ol.Each.nil
      have fz : ∀ j, y1.frozen? ⟨g4, j, none⟩ = false := fun j => by simp [World.frozen?, hrc1]
      have p1 : y1.cell? ⟨g4, bn * 16 + 12, none⟩ = some cur4[bn * 16 + 12] := by rw [cell_of_row _ _ _ _ _ _ hrc1]; exact Array.getElem?_eq_getElem _
      go_simp
      clear fz p1
      refine Ol.past hK (by kernel_rfl) _ _ ?_
      clear hK K
      refine Ol.way_plain (i := 17) (v := ?_) rfl (by kernel_rfl) (by kernel_rfl) (by kernel_rfl) (fun _ _ _ h => h) (by decide) (Or.inl ⟨by kernel_rfl, by (intro wz _; go_simp; try with_reducible rfl)⟩) (Ol.off (by kernel_rfl)) ?_
      go_simp
      refine Ol.way_plain (i := 18) (v := ?_) rfl (by kernel_rfl) (by kernel_rfl) (by kernel_rfl) (fun _ _ _ h => h) (by decide) (Or.inl ⟨by kernel_rfl, by (intro wz _; go_simp; try with_reducible rfl)⟩) (Ol.off (by kernel_rfl)) ?_
      go_simp
      refine Ol.way_ready (rs := [19]) (by kernel_rfl) (by simp) ?_
      refine Ol.Each.cons rfl (fun K hK => ?_) Ol.Each.nil
      have fz : ∀ j, (y1.setCell ⟨g4, bn * 16 + 12, none⟩ (.int .i64 ((bn : Int) + 1))).frozen? ⟨g4, j, none⟩ = false := fun j => by simp [World.frozen?, heap_setCell_same _ _ _ _ _ _ hrc1]
      have p1 : (y1.setCell ⟨g4, bn * 16 + 12, none⟩ (.int .i64 ((bn : Int) + 1))).cell? ⟨g4, bn * 16 + 13, none⟩ = some cur4[bn * 16 + 13] := by rw [cell_of_row _ _ _ _ _ _ (heap_setCell_same _ _ _ _ _ _ hrc1)]; simp
      go_simp
      clear fz p1
      refine Ol.past hK (by kernel_rfl) _ _ ?_
      clear hK K
      refine Ol.way_done (by kernel_rfl) ?_ _
      have HM5 := Lib.hid (HM4.out.on HU1.out)
      have HK6 := Lib.hid (HK5.out.trans (Kept.of (mb := mb) (vn := .slice (some ⟨g4, 0, none⟩) (bn + 1 + gn + gm) cap4) (vo := o4) HU1.out hbD))
      have hs1 := HU1.out.size
      go_wp2_with fail
      go_ret
      have hst := mk_set ((bn : Int) + 1) ((bn : Int) + 1 + gn) HLM.out.symm HM5.out (by omega)
      rw [← HBN.out] at hst
      refine ⟨rfl, _, _, ?_, HK6.out.trans hst.2⟩
      rw [grow_node _ _ _ _ _ (by rw [← HBL.out]; exact h4), ← HBN.out, ← HBO.out, ← HA.out, ← HC.out, ← HGA.out, ← HOA.out, ← HGN.out, ← HGB.out, ← HOB.out, ← List.append_assoc od]
      rw [show ((bn + 1 : Nat) : Int) = (bn : Int) + 1 by omega, show ((bn + 1 + gn : Nat) : Int) = (bn : Int) + 1 + gn by omega]
      exact hst.1

end Go.Proofs.Ytoppcnkfgmbpfaa.Tr
