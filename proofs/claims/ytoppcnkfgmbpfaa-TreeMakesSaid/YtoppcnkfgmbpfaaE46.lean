/- Trees: what the document's Node makes. -/
import Derived.Test.YtoppcnkfgmbpfaaE44
import Derived.Test.YtoppcnkfgmbpfaaE45
import Derived.Test.YtoppcnkfgmbpfaaE39
namespace Go.Proofs.Ytoppcnkfgmbpfaa.Tr
open Go.RowKit Go.Proofs.Ytoppcnkfgmbpfaa Go.Proofs.Ytoppcnkfgmbpfaa.Wa Go.Proofs.Ytoppcnkfgmbpfaa.Ve Go.Proofs.Ytoppcnkfgmbpfaa.Au Go.Proofs.Ytoppcnkfgmbpfaa.Bx
set_option linter.unusedVariables false
set_option linter.unusedSimpArgs false

theorem infoNodeR : (Try.prog.info? 53).map (fun i => (i.zero, i.size, i.bytes)) = some (some (.agg #[.int .i64 0, .int .i64 0, .int .i64 0, .int .i64 0, .int .i64 0, .int .i64 0, .int .i64 0, .int .i64 0, .int .i64 0, .int .i64 0, .int .i64 0, .int .i64 0, .int .i64 0, .int .i64 0, .int .i64 0, .int .i64 0]), 16, 128) := by kernel_rfl

theorem rtne2 : (53 : TypeId) ≠ 33 := by decide
theorem rtne3 : (3 : TypeId) ≠ 33 := by decide

theorem own_cell {w : World} {b n c g k : Nat} {e : TypeId} {xs : List Value} (h : w.ownsRow b e c (.slice (some ⟨g, 0, none⟩) n k) n xs) (j : Nat) (hj : j < n * c) : ∃ u, w.cell? ⟨g, j, none⟩ = some u := by
  have hl := h.1
  exact ⟨xs[j], by rw [h.cellAt j hj, List.getElem?_eq_getElem (by omega)]⟩

theorem r_cell {base tb i : Nat} {w : World} {vn vo : Value} {PL : Nat → Int} {ns : List Nd} {od : List Nat} {cs : Array Value} (h : RAt base w PL ns od vn vo) (ht : w.heap[tb]? = some (.cells cs 33 (0, 0))) (u : Value) : RAt base (w.setCell ⟨tb, i, none⟩ u) PL ns od vn vo :=
  ⟨own_keep h.rn fun q hq => setCell_heap _ _ _ _ _ (fun e => own_ne_blk h.rn ht rtne2 (by rw [← e]; exact hq)), own_keep h.ro fun q hq => setCell_heap _ _ _ _ _ (fun e => own_ne_blk h.ro ht rtne3 (by rw [← e]; exact hq))⟩

theorem r_row {base tb : Nat} {w : World} {vn vo : Value} {PL : Nat → Int} {ns : List Nd} {od : List Nat} {cs cs' : Array Value} (h : RAt base w PL ns od vn vo) (ht : w.heap[tb]? = some (.cells cs 33 (0, 0))) : RAt base (w.setRow tb cs') PL ns od vn vo :=
  ⟨own_keep h.rn fun q hq => setRow_other _ _ _ _ (fun e => own_ne_blk h.rn ht rtne2 (by rw [← e]; exact hq)), own_keep h.ro fun q hq => setRow_other _ _ _ _ (fun e => own_ne_blk h.ro ht rtne3 (by rw [← e]; exact hq))⟩

theorem k_cell {base tb i : Nat} {a w : World} {vn vo vn' vo' : Value} (h : KeptR base a w vn vo vn' vo') (hb : base ≤ a.heap.size) (ht : a.heap.size ≤ tb) (u : Value) : KeptR base a (w.setCell ⟨tb, i, none⟩ u) vn vo vn' vo' :=
  ⟨h.below.setCell (by show base ≤ tb; omega) _, fun q h1 h2 h3 => (setCell_heap _ _ _ _ _ (by omega)).trans (h.other q h1 h2 h3), h.gn, h.go⟩

theorem k_row {base tb : Nat} {a w : World} {vn vo vn' vo' : Value} (h : KeptR base a w vn vo vn' vo') (hb : base ≤ a.heap.size) (ht : a.heap.size ≤ tb) (cs : Array Value) : KeptR base a (w.setRow tb cs) vn vo vn' vo' :=
  ⟨below_setRow h.below (by omega) cs, fun q h1 h2 h3 => (setRow_other _ _ _ _ (by omega)).trans (h.other q h1 h2 h3), h.gn, h.go⟩

/-- what Node asks -/
structure AddInR (PL : Nat → Int) (N base gp op gl ol lc : Nat) (l : List Nat) (ns : List Nd) (od : List Nat) (vn vo : Value) (w : World) : Prop where
  h1 : 1 ≤ l.length
  hm : l.length ≤ 1000
  hlt : ∀ j, j < l.length → l.getD j 0 < N
  hlc : l.length ≤ lc
  hs : base ≤ w.heap.size
  hM : RAt base w PL ns od vn vo
  hp : ∀ j, j < N * 12 → w.cell? ⟨gp, op + j, none⟩ = some (.int .i64 (PL j))
  hgl : gl < w.heap.size
  hg2 : vn.ownBlock ≠ some gl
  hg3 : vo.ownBlock ≠ some gl
  hl : ∀ j, j < l.length → w.cell? ⟨gl, ol + j, none⟩ = some (.int .i64 ((l.getD j 0 : Nat) : Int))
  hb1 : ns.length + 2 * l.length ≤ 100000
  hb2 : od.length + l.length ≤ 100000

def AddOutR (PL : Nat → Int) (f base : Nat) (l : List Nat) (ns : List Nd) (od : List Nat) (vn vo : Value) (w : World) (e : Ending) (w' : World) : Prop :=
  ∃ vn' vo', e = .returned (.agg #[vn', vo']) ∧ RAt base w' PL (ns ++ (grow PL f l ns.length od.length).1) (od ++ (grow PL f l ns.length od.length).2) vn' vo' ∧ KeptR base w w' vn vo vn' vo'

set_option maxHeartbeats 8000000 in
set_option maxRecDepth 100000 in
theorem rnode_f (PL : Nat → Int) (N base gp op pc : Nat) (hN : N ≤ 1000) (hgp : gp < base) : ∀ (f : Nat) (l : List Nat), l.length ≤ f → ∀ (gl ol lc : Nat) (ns : List Nd) (od : List Nat) (vn vo : Value) (w : World),
    AddInR PL N base gp op gl ol lc l ns od vn vo w →
    Calls Try.prog 16 #[.agg #[vn, vo], .slice (some ⟨gp, op, none⟩) N pc, .slice (some ⟨gl, ol, none⟩) l.length lc] w fun e w' => AddOutR PL f base l ns od vn vo w e w' := by
  intro f
  induction f with
  | zero => intro l hf gl ol lc ns od vn vo w h; exact absurd h.h1 (by omega)
  | succ f ih =>

    intro l hf gl ol lc ns od vn vo w hin
    have HIH := Lib.hid ih
    clear ih
    obtain ⟨h1, hm, hlt, hlc, hs, hM, hp, hgl, hg2, hg3, hl, hb1, hb2⟩ := hin
    obtain ⟨i0, hi, hz0, hz1, hz2⟩ := info_parts infoNodeR
    obtain ⟨j0, ji, jz0, jz1, jz2⟩ := info_parts infoInt1
    obtain ⟨an, kn, hvn⟩ := own_slice hM.rn
    obtain ⟨ao, ko, hvo⟩ := own_slice hM.ro
    have HBT := Lib.hid (fun (W : World) (hb : Below w.heap.size w W) => rboth_l PL N l h1 hm hN hlt gp op pc gl ol lc W (by have := hb.size; omega) (by have := hb.size; omega) (fun j hj => (hb.cell (p := ⟨gp, op + j, none⟩) (by show gp < _; omega)).trans (hp j hj)) (fun j hj => (hb.cell (p := ⟨gl, ol + j, none⟩) hgl).trans (hl j hj)))
    obtain ⟨r0_, hr0_⟩ : ∃ x, x = lo6 (La (pl PL l)) 0 l.length := ⟨_, rfl⟩
    obtain ⟨r1_, hr1_⟩ : ∃ x, x = lo6 (La (pl PL l)) 1 l.length := ⟨_, rfl⟩
    obtain ⟨r2_, hr2_⟩ : ∃ x, x = lo6 (La (pl PL l)) 2 l.length := ⟨_, rfl⟩
    obtain ⟨r3_, hr3_⟩ : ∃ x, x = hi6 (La (pl PL l)) 0 l.length := ⟨_, rfl⟩
    obtain ⟨r4_, hr4_⟩ : ∃ x, x = hi6 (La (pl PL l)) 1 l.length := ⟨_, rfl⟩
    obtain ⟨r5_, hr5_⟩ : ∃ x, x = hi6 (La (pl PL l)) 2 l.length := ⟨_, rfl⟩
    obtain ⟨r6_, hr6_⟩ : ∃ x, x = lo6 (Lb (pl PL l)) 0 l.length := ⟨_, rfl⟩
    obtain ⟨r7_, hr7_⟩ : ∃ x, x = lo6 (Lb (pl PL l)) 1 l.length := ⟨_, rfl⟩
    obtain ⟨r8_, hr8_⟩ : ∃ x, x = lo6 (Lb (pl PL l)) 2 l.length := ⟨_, rfl⟩
    obtain ⟨r9_, hr9_⟩ : ∃ x, x = hi6 (Lb (pl PL l)) 0 l.length := ⟨_, rfl⟩
    obtain ⟨r10_, hr10_⟩ : ∃ x, x = hi6 (Lb (pl PL l)) 1 l.length := ⟨_, rfl⟩
    obtain ⟨r11_, hr11_⟩ : ∃ x, x = hi6 (Lb (pl PL l)) 2 l.length := ⟨_, rfl⟩
    have HP12 := Lib.hid (show pair12 PL l = [r0_, r1_, r2_, r3_, r4_, r5_, r6_, r7_, r8_, r9_, r10_, r11_] from by unfold pair12; rw [hr0_, hr1_, hr2_, hr3_, hr4_, hr5_, hr6_, hr7_, hr8_, hr9_, hr10_, hr11_])
    rw [← hr0_, ← hr1_, ← hr2_, ← hr3_, ← hr4_, ← hr5_, ← hr6_, ← hr7_, ← hr8_, ← hr9_, ← hr10_, ← hr11_] at HBT
    have HM := Lib.hid hM
    have HPP := Lib.hid hp
    have HLL := Lib.hid hl
    have HLT := Lib.hid hlt
    have HG2 := Lib.hid hg2
    have HG3 := Lib.hid hg3
    have HX2 := Lib.hid (fun (a b c d : Int) => show ∀ u ∈ ([.int .i64 r0_, .int .i64 r1_, .int .i64 r2_, .int .i64 r3_, .int .i64 r4_, .int .i64 r5_, .int .i64 r6_, .int .i64 r7_, .int .i64 r8_, .int .i64 r9_, .int .i64 r10_, .int .i64 r11_, .int .i64 a, .int .i64 b, .int .i64 c, .int .i64 d] : List Value), u.oneCell' = true by intro u hu; simp only [List.mem_cons, List.not_mem_nil, or_false] at hu; rcases hu with rfl | rfl | rfl | rfl | rfl | rfl | rfl | rfl | rfl | rfl | rfl | rfl | rfl | rfl | rfl | rfl <;> rfl)
    have HNW := Lib.hid (fun (a b c d : Int) => show ((⟨l, a, b, c, d⟩ : Nd).nums PL).map (fun x => Value.int .i64 x) = [.int .i64 r0_, .int .i64 r1_, .int .i64 r2_, .int .i64 r3_, .int .i64 r4_, .int .i64 r5_, .int .i64 r6_, .int .i64 r7_, .int .i64 r8_, .int .i64 r9_, .int .i64 r10_, .int .i64 r11_, .int .i64 a, .int .i64 b, .int .i64 c, .int .i64 d] by unfold Nd.nums; rw [HP12.out]; rfl)
    have hbn : ns.length ≤ 100000 := by omega
    have hbo : od.length ≤ 100000 := by omega
    obtain ⟨bn, hbnn⟩ : ∃ b, b = ns.length := ⟨_, rfl⟩
    obtain ⟨bo, hboo⟩ : ∃ b, b = od.length := ⟨_, rfl⟩
    obtain ⟨bl, hbll⟩ : ∃ b, b = l.length := ⟨_, rfl⟩
    have HVN := Lib.hid hvn
    have HVO := Lib.hid hvo
    rw [hvn, hvo, ← hbnn, ← hboo, ← hbll]
    rw [← hbll] at HBT
    have HBN := Lib.hid hbnn
    have HBO := Lib.hid hboo
    have HBL := Lib.hid hbll
    have hB1 : bn + 2 * bl ≤ 100000 := by omega
    have hB2 : bo + bl ≤ 100000 := by omega
    have h1b : 1 ≤ bl := by omega
    have hmbl : bl ≤ 1000 := by omega
    have hlcb : bl ≤ lc := by omega
    have hfb : bl ≤ f + 1 := by omega
    clear hp hl hlt hg2 hg3 hr0_ hr1_ hr2_ hr3_ hr4_ hr5_ hr6_ hr7_ hr8_ hr9_ hr10_ hr11_ hvn hvo hM hb1 hb2 hbn hbo hbnn hboo hbll hf hm h1 hlc
    go_enter Try.func16, Try.ntmps16
    go_upto_region 1 with fail
    have hR := Au.rows2 w (.cells #[.slice an bn kn, .slice ao bo ko] 33) (.cells #[.slice none 0 0, .slice none 0 0] 33)
    have HUx := below_n2 w (.cells #[.slice an bn kn, .slice ao bo ko] 33) (.cells #[.slice none 0 0, .slice none 0 0] 33)
    obtain ⟨y0, hy0⟩ : ∃ y0, (w.alloc (.cells #[.slice an bn kn, .slice ao bo ko] 33)).alloc (.cells #[.slice none 0 0, .slice none 0 0] 33) = y0 := ⟨_, rfl⟩
    rw [hy0] at hR HUx ⊢
    clear hy0
    have HU0 := Lib.hid HUx
    clear HUx
    obtain ⟨hr0_0, hr0_1⟩ := hR
    have htl := lt_heap hr0_0
    have hrl := lt_heap hr0_1
    have hsz0 := HU0.out.size
    obtain ⟨tb, htb⟩ : ∃ b, b = w.heap.size := ⟨_, rfl⟩
    obtain ⟨rb, hrb⟩ : ∃ b, b = w.heap.size + 1 := ⟨_, rfl⟩
    have htw : w.heap.size ≤ tb := by omega
    have hrw : w.heap.size ≤ rb := by omega
    have htr : tb ≠ rb := by omega
    rw [← hrb] at hr0_1 hrl ⊢
    rw [← htb] at hr0_0 htl ⊢
    clear htb hrb
    have c0_0 := cell_of_row _ _ 0 _ _ _ hr0_0
    have c0_1 := cell_of_row _ _ 1 _ _ _ hr0_0
    simp at c0_0 c0_1
    go_upto_region 2 with fail
    clear c0_0 c0_1
    refine Ol.way_drew (S := fun y => y.heap[tb]? = some (.cells #[.slice an bn kn, .slice ao bo ko] 33 (0, 0))) (stop := 9) (by kernel_rfl) (hr0_0) (fun hS0 => ?_)
    obtain ⟨y1, hy1⟩ : ∃ y, y0.drew = y := ⟨_, rfl⟩
    have HU1 := Lib.hid (show Below w.heap.size w y1 by rw [← hy1]; exact HU0.out.drew)
    have hr1_0 : y1.heap[tb]? = some (.cells #[.slice an bn kn, .slice ao bo ko] 33 (0, 0)) := by rw [← hy1]; exact hr0_0
    have hr1_1 : y1.heap[rb]? = some (.cells #[.slice none 0 0, .slice none 0 0] 33 (0, 0)) := by rw [← hy1]; exact hr0_1
    rw [hy1] at hS0 ⊢
    clear hy1
    refine Ol.way_plain (i := 0) (v := ?_) rfl (by kernel_rfl) (by kernel_rfl) (by kernel_rfl) (fun _ _ _ h => h) (by decide) (Or.inl ⟨by kernel_rfl, by (intro wz _; go_simp; try with_reducible rfl)⟩) (Ol.on hS0) ?_
    go_simp
    refine Ol.way_take (i := 1) (v := ?_) rfl (by kernel_rfl) (by kernel_rfl) (by kernel_rfl) (fun _ _ _ h => h) (by decide) (by kernel_rfl) (by kernel_rfl) (Or.inl ⟨by kernel_rfl, by (intro wz hSz; have c0_0 := cell_of_row _ _ 0 _ _ _ hSz; have c0_1 := cell_of_row _ _ 1 _ _ _ hSz; simp at c0_0 c0_1; go_simp; try with_reducible rfl)⟩) hS0 ?_
    go_simp
    refine Ol.way_plain (i := 2) (v := ?_) rfl (by kernel_rfl) (by kernel_rfl) (by kernel_rfl) (fun _ _ _ h => h) (by decide) (Or.inl ⟨by kernel_rfl, by (intro wz _; go_simp; try with_reducible rfl)⟩) (Ol.on hS0) ?_
    go_simp
    refine Ol.way_plain (i := 3) (v := ?_) rfl (by kernel_rfl) (by kernel_rfl) (by kernel_rfl) (fun _ _ _ h => h) (by decide) (Or.inl ⟨by kernel_rfl, by (intro wz _; go_simp; try with_reducible rfl)⟩) (Ol.on hS0) ?_
    go_simp
    refine Ol.way_ready (rs := [4]) (by kernel_rfl) (by simp) ?_
    refine Ol.Each.cons rfl (fun K hK => ?_) Ol.Each.nil
    go_simp
    go_wp2_with (go_at_call 21; refine (HBT.out _ HU1.out).mono ?_; rintro e y2 ⟨rfl, hb2⟩)
    have hr2_0 := (hb2.block _ (lt_heap hr1_0)).trans hr1_0
    have hr2_1 := (hb2.block _ (lt_heap hr1_1)).trans hr1_1
    have HU2 := Lib.hid (HU1.out.trans (hb2.mono HU1.out.size))
    refine Ol.keep hK _ _ ((hb2.block _ (lt_heap hS0)).trans hS0) (fun hS2c => ?_)
    clear hK K
    refine Ol.way_plain (i := 5) (v := ?_) rfl (by kernel_rfl) (by kernel_rfl) (by kernel_rfl) (fun _ _ _ h => h) (by decide) (Or.inl ⟨by kernel_rfl, by (intro wz _; go_simp; try with_reducible rfl)⟩) (Ol.on hS2c) ?_
    go_simp
    refine Ol.way_ready (rs := [6]) (by kernel_rfl) (by simp) ?_
    refine Ol.Each.cons rfl (fun K hK => ?_) Ol.Each.nil
    go_simp
    have hb3 := below_n1 y2 (.cells #[.int .i64 r0_, .int .i64 r1_, .int .i64 r2_, .int .i64 r3_, .int .i64 r4_, .int .i64 r5_, .int .i64 r6_, .int .i64 r7_, .int .i64 r8_, .int .i64 r9_, .int .i64 r10_, .int .i64 r11_, .int .i64 (-1), .int .i64 (-1), .int .i64 0, .int .i64 0] 53)
    have hN := heap_alloc_last y2 (.cells #[.int .i64 r0_, .int .i64 r1_, .int .i64 r2_, .int .i64 r3_, .int .i64 r4_, .int .i64 r5_, .int .i64 r6_, .int .i64 r7_, .int .i64 r8_, .int .i64 r9_, .int .i64 r10_, .int .i64 r11_, .int .i64 (-1), .int .i64 (-1), .int .i64 0, .int .i64 0] 53)
    obtain ⟨y3, hy3⟩ : ∃ y, y2.alloc (.cells #[.int .i64 r0_, .int .i64 r1_, .int .i64 r2_, .int .i64 r3_, .int .i64 r4_, .int .i64 r5_, .int .i64 r6_, .int .i64 r7_, .int .i64 r8_, .int .i64 r9_, .int .i64 r10_, .int .i64 r11_, .int .i64 (-1), .int .i64 (-1), .int .i64 0, .int .i64 0] 53) = y := ⟨_, rfl⟩
    rw [hy3] at hb3 hN ⊢
    clear hy3
    have hl3_0 := lt_heap hr2_0
    have hr3_0 := (hb3.block _ (lt_heap hr2_0)).trans hr2_0
    have hl3_1 := lt_heap hr2_1
    have hr3_1 := (hb3.block _ (lt_heap hr2_1)).trans hr2_1
    have hr3_2 := hN
    clear hN
    have HU3 := Lib.hid (HU2.out.trans (hb3.mono HU2.out.size))
    refine Ol.keep hK _ _ ((hb3.block _ (lt_heap hS2c)).trans hS2c) (fun hS3a => ?_)
    clear hK K
    refine Ol.way_ready (rs := [7]) (by kernel_rfl) (by simp) ?_
    refine Ol.Each.cons rfl (fun K hK => ?_) Ol.Each.nil
    have hsm := HU3.out.size
    have HMm := Lib.hid (HM.out.on HU3.out)
    have hown0 := HMm.out.rn
    rw [HVN.out, ← HBN.out] at hown0
    refine step_append_lies _ rfl _ _ 31 rfl base 53 i0 (.agg #[.int .i64 0, .int .i64 0, .int .i64 0, .int .i64 0, .int .i64 0, .int .i64 0, .int .i64 0, .int .i64 0, .int .i64 0, .int .i64 0, .int .i64 0, .int .i64 0, .int .i64 0, .int .i64 0, .int .i64 0, .int .i64 0]) 16 128 Try.underlying31 hi hz0 hz1 hz2 rfl (by decide) _ _ _ (by first | rfl | (go_simp; done) | (go_simp; rfl)) hown0 ⟨y2.heap.size, 0, none⟩ 1 1 [.int .i64 r0_, .int .i64 r1_, .int .i64 r2_, .int .i64 r3_, .int .i64 r4_, .int .i64 r5_, .int .i64 r6_, .int .i64 r7_, .int .i64 r8_, .int .i64 r9_, .int .i64 r10_, .int .i64 r11_, .int .i64 (-1), .int .i64 (-1), .int .i64 0, .int .i64 0] (by first | rfl | (go_simp; done) | (go_simp; rfl)) rfl (news_row hr3_2) (HX2.out (-1) (-1) 0 0) (by decide) (by unfold maxLen; omega) (by omega) (by omega) _ rfl ?_
    intro gN capN y4 hown hgrow hat hltN
    obtain ⟨hM1, hK1⟩ := r_nodes (nd := ⟨l, -1, -1, 0, 0⟩) (v2 := .slice (some ⟨gN, 0, none⟩) (bn + 1) capN) HMm.out (by omega) (by rw [HNW.out, ← HBN.out]; exact hown) (by rw [HVN.out, ← HBN.out]; exact hgrow) (fun q hq => by
      have e : some gN = some q := hq
      injection e with e
      rw [← e, HVN.out, ← HBN.out]
      rcases hat with h | h
      · exact Or.inl h
      · exact Or.inr (by omega))
    have htK := (hgrow.block tb (lt_heap hr3_0) (fun e => own_ne_blk hown0 hr3_0 rtne2 e.symm)).trans hr3_0
    have hrK := (hgrow.block rb (lt_heap hr3_1) (fun e => own_ne_blk hown0 hr3_1 rtne2 e.symm)).trans hr3_1
    have hKt := (KeptR.of (base := base) (vn := vn) (vo := vo) HU3.out (by omega)).trans hK1
    clear hown hgrow hat hown0 hK1
    refine Ol.keep hK _ _ (htK) (fun hSapp => ?_)
    clear hK K
    refine Ol.way_plain (i := 8) (v := ?_) rfl (by kernel_rfl) (by kernel_rfl) (by kernel_rfl) (fun _ _ _ h => h) (by decide) (Or.inl ⟨by kernel_rfl, by (intro wz _; go_simp; try with_reducible rfl)⟩) (Ol.on hSapp) ?_
    go_simp
    refine Ol.way_ready (rs := [9]) (by kernel_rfl) (by simp) ?_
    refine Ol.Each.cons rfl (fun K hK => ?_) Ol.Each.nil
    have p0 := cell_of_row _ _ 0 _ _ _ htK
    simp at p0
    have fz : ∀ j, y4.frozen? ⟨tb, j, none⟩ = false := fun j => by simp [World.frozen?, htK]
    go_simp
    clear fz p0
    have hM2 := r_cell (i := 0) hM1 htK (.slice (some ⟨gN, 0, none⟩) (bn + 1) capN)
    have hK2 := k_cell (tb := tb) (i := 0) hKt hs htw (.slice (some ⟨gN, 0, none⟩) (bn + 1) capN)
    have ht2 := heap_setCell_same _ tb 0 _ _ (.slice (some ⟨gN, 0, none⟩) (bn + 1) capN) htK
    have hr2 := (setCell_heap y4 tb 0 (.slice (some ⟨gN, 0, none⟩) (bn + 1) capN) rb (Ne.symm htr)).trans hrK
    obtain ⟨yA, hyA⟩ : ∃ y, y4.setCell ⟨tb, 0, none⟩ (.slice (some ⟨gN, 0, none⟩) (bn + 1) capN) = y := ⟨_, rfl⟩
    rw [hyA] at hM2 hK2 ht2 hr2 ⊢
    clear hyA htK hrK hM1 hKt
    refine Ol.past hK (by kernel_rfl) _ _ ?_
    clear hK K
    refine Ol.way_done (by kernel_rfl) ?_ _
    clear hS0 hSapp
    simp at ht2
    have HMA := Lib.hid hM2
    have HKA := Lib.hid hK2
    have HTA := Lib.hid ht2
    have HRA := Lib.hid hr2
    have hsA := hK2.below.size
    clear hM2 hK2 ht2 hr2
    by_cases h4 : bl ≤ 4
    · have h4i : (bl : Int) ≤ 4 := by omega
      go_upto_region 4 with fail
      have hlen1 : (ns ++ [(⟨l, -1, -1, 0, 0⟩ : Nd)]).length = bn + 1 := by rw [List.length_append, ← HBN.out]; rfl
      have hbi : (bn : Int) < (bn : Int) + 1 := by omega
      have hrn := HMA.out.rn
      rw [hlen1] at hrn
      obtain ⟨u1, hu1⟩ := own_cell hrn (bn * 16 + 14) (by omega)
      have fz := hrn.frozenAt
      have hgt : gN ≠ tb := fun e => own_ne_blk hrn HTA.out rtne2 (by rw [← e]; rfl)
      have hgr : gN ≠ rb := fun e => own_ne_blk hrn HRA.out rtne2 (by rw [← e]; rfl)
      have c0 := cell_of_row _ _ 0 _ _ _ HTA.out
      have c1 := cell_of_row _ _ 1 _ _ _ HTA.out
      simp at c0 c1
      go_upto_region 5 with fail
      have hst := r_set (bn * 16 + 14) (bo : Int) hlen1.symm (ns' := ns ++ [⟨l, -1, -1, bo, 0⟩]) (by simp) HMA.out (by
        have h := set_one PL ns [] l (-1) (-1) 0 0 (bo : Int) 2 ⟨l, -1, -1, bo, 0⟩ (by decide) rfl
        rw [← HBN.out] at h
        exact h)
      have htB := (setCell_heap yA gN (bn * 16 + 14) (.int .i64 (bo : Int)) tb (Ne.symm hgt)).trans HTA.out
      have hrB := (setCell_heap yA gN (bn * 16 + 14) (.int .i64 (bo : Int)) rb (Ne.symm hgr)).trans HRA.out
      obtain ⟨yB, hyB⟩ : ∃ y, yA.setCell ⟨gN, bn * 16 + 14, none⟩ (.int .i64 (bo : Int)) = y := ⟨_, rfl⟩
      rw [hyB] at hst htB hrB ⊢
      have HMB := Lib.hid hst.1
      have HKB := Lib.hid (HKA.out.trans hst.2)
      clear hyB hst hrn hu1 fz c0 c1 hlen1
      have hlen2 : (ns ++ [(⟨l, -1, -1, bo, 0⟩ : Nd)]).length = bn + 1 := by rw [List.length_append, ← HBN.out]; rfl
      have hrn := HMB.out.rn
      rw [hlen2] at hrn
      obtain ⟨u2, hu2⟩ := own_cell hrn (bn * 16 + 15) (by omega)
      have fz := hrn.frozenAt
      have c0 := cell_of_row _ _ 0 _ _ _ htB
      simp at c0
      go_upto_region 6 with fail
      have hst := r_set (bn * 16 + 15) (bl : Int) hlen2.symm (ns' := ns ++ [⟨l, -1, -1, bo, bl⟩]) (by simp) HMB.out (by
        have h := set_one PL ns [] l (-1) (-1) bo 0 (bl : Int) 3 ⟨l, -1, -1, bo, bl⟩ (by decide) rfl
        rw [← HBN.out] at h
        exact h)
      have htC := (setCell_heap yB gN (bn * 16 + 15) (.int .i64 (bl : Int)) tb (Ne.symm hgt)).trans htB
      have hrC := (setCell_heap yB gN (bn * 16 + 15) (.int .i64 (bl : Int)) rb (Ne.symm hgr)).trans hrB
      obtain ⟨yC, hyC⟩ : ∃ y, yB.setCell ⟨gN, bn * 16 + 15, none⟩ (.int .i64 (bl : Int)) = y := ⟨_, rfl⟩
      rw [hyC] at hst htC hrC ⊢
      have HMC := Lib.hid hst.1
      have HKC := Lib.hid (HKB.out.trans hst.2)
      clear hyC hst hrn hu2 fz c0 hlen2 htB hrB
      have hsC := HKC.out.below.size
      have HNL := Lib.hid (news_list (w := yC) (g := gl) (o := ol) (l := l) (fun j hj => (World.cell?_of_block (w := w) (a := ⟨gl, ol + j, none⟩) (HKC.out.other gl hgl HG2.out HG3.out)).trans (HLL.out j hj)))
      have hownO := HMC.out.ro
      rw [HVO.out, ← HBO.out] at hownO
      have HOO := Lib.hid hownO
      have c1 := cell_of_row _ _ 1 _ _ _ htC
      simp at c1
      have HTC := Lib.hid htC
      have HRC := Lib.hid hrC
      have HNV := Lib.hid (show (nv l).length = bl * 1 from by rw [HBL.out]; exact nv_len l)
      clear hownO htC hrC
      go_wp2_with (first | (at_builtin; refine wpList_append_own_at _ rfl _ _ 25 rfl base 3 j0 (.int .i64 0) 1 8 Try.underlying25 ji jz0 jz1 jz2 rfl (by decide) _ _ _ rfl HOO.out ⟨gl, ol, none⟩ bl lc (nv l) rfl HNV.out HNL.out (nv_one l) ?c3 ?c4 ?c5 ?_))
      case c3 => unfold maxLen; omega
      case c4 => omega
      case c5 => omega
      intro v3 w3 hown3 hgrow3 _ hat3
      obtain ⟨a3, k3, rfl⟩ := own_slice hown3
      obtain ⟨hM3, hK3⟩ := r_order (l := l) HMC.out (by omega) (by rw [← HBO.out, ← HBL.out]; exact hown3) (by rw [HVO.out, ← HBO.out]; exact hgrow3) (fun q hq => by
        rw [HVO.out, ← HBO.out]
        rcases hat3 with h | h
        · exact Or.inl (h ▸ hq)
        · rw [h] at hq; injection hq with e; exact Or.inr (by omega))
      have ht3 := (hgrow3.block tb (lt_heap HTC.out) (fun e => own_ne_blk HOO.out HTC.out rtne3 e.symm)).trans HTC.out
      have hr3 := (hgrow3.block rb (lt_heap HRC.out) (fun e => own_ne_blk HOO.out HRC.out rtne3 e.symm)).trans HRC.out
      have p1 := cell_of_row _ _ 1 _ _ _ ht3
      simp at p1
      have fz : ∀ j, w3.frozen? ⟨tb, j, none⟩ = false := fun j => by simp [World.frozen?, ht3]
      have HM3 := Lib.hid (r_cell (i := 1) hM3 ht3 (.slice a3 (bo + bl) k3))
      have HK3 := Lib.hid (k_cell (tb := tb) (i := 1) (HKC.out.trans hK3) hs htw (.slice a3 (bo + bl) k3))
      clear hown3 hgrow3 hat3 c1 hM3 hK3
      go_upto_region 7 with fail
      have ht4 := heap_setCell_same _ tb 1 _ _ (.slice a3 (bo + bl) k3) ht3
      simp at ht4
      have hr4 := (setCell_heap w3 tb 1 (.slice a3 (bo + bl) k3) rb (Ne.symm htr)).trans hr3
      obtain ⟨yE, hyE⟩ : ∃ y, w3.setCell ⟨tb, 1, none⟩ (.slice a3 (bo + bl) k3) = y := ⟨_, rfl⟩
      rw [hyE] at HM3 HK3 ht4 hr4 ⊢
      clear hyE ht3 hr3 p1 fz
      have hHr := Lib.hid hr4
      have hHi := Lib.hid (show (Try.prog.info? 33).map (·.size) = some (#[.slice (some ⟨gN, 0, none⟩) (bn + 1) capN, .slice a3 (bo + bl) k3] : Array Value).size by kernel_rfl)
      have hHz := Lib.hid (show (#[.slice none 0 0, .slice none 0 0] : Array Value).size = (#[.slice (some ⟨gN, 0, none⟩) (bn + 1) capN, .slice a3 (bo + bl) k3] : Array Value).size from rfl)
      have hHo := Lib.hid (show (#[.slice (some ⟨gN, 0, none⟩) (bn + 1) capN, .slice a3 (bo + bl) k3] : Array Value).all (·.oneCell') = true by simp [Value.oneCell'])
      have c0 := cell_of_row _ _ 0 _ _ _ ht4
      have c1 := cell_of_row _ _ 1 _ _ _ ht4
      simp at c0 c1
      go_wp2_with (first | (refine Au.wpList_store_row rfl 33 (.tmp 6) (.tmp 47) rfl yE #[.slice none 0 0, .slice none 0 0] #[.slice (some ⟨gN, 0, none⟩) (bn + 1) capN, .slice a3 (bo + bl) k3] rb 33 hHr.out rfl rfl hHi.out hHz.out hHo.out ?_))
      have hN := setRow_heap yE rb _ #[.slice (some ⟨gN, 0, none⟩) (bn + 1) capN, .slice a3 (bo + bl) k3] _ _ hr4
      have d0 := cell_of_row _ _ 0 _ _ _ hN
      have d1 := cell_of_row _ _ 1 _ _ _ hN
      simp at d0 d1
      refine bodyPost_ret (v := .agg #[.slice (some ⟨gN, 0, none⟩) (bn + 1) capN, .slice a3 (bo + bl) k3]) (by simp [results, Try.results16, go_sem, d0, d1]) rfl ?_
      have hkf := k_row HK3.out hs hrw #[.slice (some ⟨gN, 0, none⟩) (bn + 1) capN, .slice a3 (bo + bl) k3]
      rw [HVN.out, HVO.out, ← HBN.out, ← HBO.out] at hkf
      refine ⟨_, _, rfl, ?_, hkf⟩
      have h := r_row (cs' := #[.slice (some ⟨gN, 0, none⟩) (bn + 1) capN, .slice a3 (bo + bl) k3]) HM3.out hr4
      rw [grow_leaf _ _ _ _ _ (by rw [← HBL.out]; exact h4)]
      rw [← HBO.out, ← HBL.out]
      exact h
    · have h4i : ¬ (bl : Int) ≤ 4 := by omega
      go_upto_region 8 with fail
      have hlA : ∀ j, j < l.length → yA.cell? ⟨gl, ol + j, none⟩ = some (.int .i64 ((l.getD j 0 : Nat) : Int)) := fun j hj => (World.cell?_of_block (w := w) (a := ⟨gl, ol + j, none⟩) (HKA.out.other gl hgl HG2.out HG3.out)).trans (HLL.out j hj)
      have hpA : ∀ j, j < N * 12 → yA.cell? ⟨gp, op + j, none⟩ = some (.int .i64 (PL j)) := fun j hj => (HKA.out.below.cell (p := ⟨gp, op + j, none⟩) hgp).trans (HPP.out j hj)
      have hbl := HBL.out
      have hsp := rsplit_l PL N l (by omega) (by omega) hN HLT.out gp op pc gl ol lc (by omega) yA (by omega) (by omega) hpA hlA
      have hcut := isCut PL l (by omega)
      have hlts := cut_lt hcut HLT.out
      have hcs := hcut.sum
      have hca1 := hcut.a1
      have hcb1 := hcut.b1
      obtain ⟨A, hA⟩ : ∃ A, A = splitA PL l := ⟨_, rfl⟩
      obtain ⟨C, hC⟩ : ∃ C, C = splitB PL l := ⟨_, rfl⟩
      rw [show (cutsN PL l (partOf PL l) 7).first = A from hA.symm] at hcs hca1 hlts
      rw [show (cutsN PL l (partOf PL l) 7).others = C from hC.symm] at hcs hcb1 hlts
      rw [← hA, ← hC] at hsp
      rw [← hbl] at hsp hcs
      have HSP := Lib.hid hsp
      have HA := Lib.hid hA
      have HC := Lib.hid hC
      have HLA := Lib.hid hlts
      have HPA := Lib.hid hpA
      have hgNlt : gN < yA.heap.size := (HMA.out.rn.lt gN rfl).2
      have htA := lt_heap HTA.out
      have hrA := lt_heap HRA.out
      clear hsp hcut hlts hA hC hpA hlA hbl
      go_wp2_with fail
      refine HSP.out.mono ?_
      rintro e yB ⟨⟨va, vb, rfl, hLa, hLb⟩, hbB⟩
      obtain ⟨ga, oa, ca, rfl, hcca, hga, hPa, hcla⟩ := hLa
      obtain ⟨gc, oc, cc, rfl, hccc, hgc, hPc, hclc⟩ := hLb
      have HMB := Lib.hid (HMA.out.on hbB)
      have HKB := Lib.hid (HKA.out.trans (KeptR.of (vn := .slice (some ⟨gN, 0, none⟩) (bn + 1) capN) (vo := vo) hbB (by omega)))
      have htB := (hbB.block tb htA).trans HTA.out
      have hrB := (hbB.block rb hrA).trans HRA.out
      have hsB := hbB.size
      have hgne : ∀ g, (g = gl ∨ yA.heap.size ≤ g) → Value.ownBlock (.slice (some ⟨gN, 0, none⟩) (bn + 1) capN) ≠ some g ∧ vo.ownBlock ≠ some g := fun g hg => by
        rcases hg with e | e
        · subst e
          refine ⟨fun hq => ?_, HG3.out⟩
          rcases HKA.out.gn _ hq with h | h
          · exact HG2.out h
          · omega
        · refine ⟨fun hq => ?_, fun hq => ?_⟩
          · have e2 : gN = g := by injection hq
            omega
          · have := (HMA.out.ro.lt g hq).2
            omega
      have hna := hgne ga hPa
      have hnc := hgne gc hPc
      have hgct : gc ≠ tb := by rcases hPc with e | e <;> omega
      have had1 := HIH.out A (by omega) ga oa ca (ns ++ [⟨l, -1, -1, 0, 0⟩]) od (.slice (some ⟨gN, 0, none⟩) (bn + 1) capN) vo yB ⟨hca1, by omega, HLA.out.1, hcca, by omega, HMB.out, fun j hj => (hbB.cell (p := ⟨gp, op + j, none⟩) (by show gp < _; omega)).trans (HPA.out j hj), hga, hna.1, hna.2, hcla, by rw [List.length_append, ← HBN.out]; simp only [List.length_cons, List.length_nil]; omega, by rw [← HBO.out]; omega⟩
      obtain ⟨la, hla⟩ : ∃ x, x = A.length := ⟨_, rfl⟩
      obtain ⟨lc2, hlc2⟩ : ∃ x, x = C.length := ⟨_, rfl⟩
      rw [← hla] at had1
      rw [← hla, ← hlc2]
      rw [show (#[.agg #[.slice (some ⟨gN, 0, none⟩) (bn + 1) capN, vo], .slice (some ⟨gp, op, none⟩) N pc, .slice (some ⟨ga, oa, none⟩) la ca] : Array Value) = #[.agg #[.slice (some ⟨gN, 0, none⟩) (bn + 1) capN, .slice ao bo ko], .slice (some ⟨gp, op, none⟩) N pc, .slice (some ⟨ga, oa, none⟩) la ca] from by rw [HVO.out, ← HBO.out]] at had1
      have HAD := Lib.hid had1
      have HHC := Lib.hid hclc
      have HNC := Lib.hid hnc
      have HHL := Lib.hid hla
      have HHC2 := Lib.hid hlc2
      have c0 := cell_of_row _ _ 0 _ _ _ htB
      have c1 := cell_of_row _ _ 1 _ _ _ htB
      simp at c0 c1
      have HTB := Lib.hid htB
      have HRB := Lib.hid hrB
      have hlt1 := lt_heap htB
      have hlr1 := lt_heap hrB
      clear had1 hna hnc hgne hcla hclc hPa hPc hbB hla hlc2 htB hrB
      go_wp2_with fail
      refine HAD.out.mono ?_
      rintro e yC ⟨v3, o3, rfl, hM3, hK3⟩
      clear c0 c1
      have hg1 := grow_len PL f A (bn + 1) bo hca1 (by omega)
      rw [show (ns ++ [(⟨l, -1, -1, 0, 0⟩ : Nd)]).length = bn + 1 from by rw [List.length_append, ← HBN.out]; rfl, ← HBO.out] at hM3
      obtain ⟨GA, hGA⟩ : ∃ x, x = (grow PL f A (bn + 1) bo).1 := ⟨_, rfl⟩
      obtain ⟨OA, hOA⟩ : ∃ x, x = (grow PL f A (bn + 1) bo).2 := ⟨_, rfl⟩
      rw [← hGA, ← hOA] at hM3 hg1
      have hsC := hK3.below.size
      have hn3 : v3.ownBlock ≠ some gc := fun hq => by
        rcases hK3.gn gc hq with h | h
        · exact HNC.out.1 h
        · omega
      have ho3 : o3.ownBlock ≠ some gc := fun hq => by
        rcases hK3.go gc hq with h | h
        · exact HNC.out.2 h
        · omega
      have e0 := HHL.out
      have e1 := HHC2.out
      have hlen2 : (ns ++ [(⟨l, -1, -1, 0, 0⟩ : Nd)] ++ GA).length = bn + 1 + GA.length := by rw [List.length_append, List.length_append, ← HBN.out]; rfl
      have htC := (hK3.other tb hlt1 (own_ne_blk HMB.out.rn HTB.out rtne2) (own_ne_blk HMB.out.ro HTB.out rtne3)).trans HTB.out
      have hrC := (hK3.other rb hlr1 (own_ne_blk HMB.out.rn HRB.out rtne2) (own_ne_blk HMB.out.ro HRB.out rtne3)).trans HRB.out
      obtain ⟨a3, k3, hv3⟩ := own_slice hM3.rn
      obtain ⟨b3, q3, hq3⟩ := own_slice hM3.ro
      rw [hlen2] at hv3
      obtain ⟨gn, hgn⟩ : ∃ x, x = GA.length := ⟨_, rfl⟩
      obtain ⟨om, hom⟩ : ∃ x, x = (od ++ OA).length := ⟨_, rfl⟩
      rw [← hgn] at hv3 hlen2
      rw [← hom] at hq3
      have hom2 : om = bo + OA.length := by rw [hom, List.length_append, ← HBO.out]
      have hcC : ∀ j, j < C.length → yC.cell? ⟨gc, oc + j, none⟩ = some (.int .i64 ((C.getD j 0 : Nat) : Int)) := fun j hj => (World.cell?_of_block (w := yB) (a := ⟨gc, oc + j, none⟩) (hK3.other gc hgc HNC.out.1 HNC.out.2)).trans (HHC.out j hj)
      have hKC := HKB.out.trans hK3
      have hMr := r_row (cs' := #[v3, o3]) hM3 htC
      have hKr := k_row hKC hs htw #[v3, o3]
      have hN3 := setRow_heap yC tb _ #[v3, o3] _ _ htC
      have hO3 : ∀ q, q ≠ tb → (yC.setRow tb #[v3, o3]).heap[q]? = yC.heap[q]? := fun q hq => setRow_other _ _ _ _ hq
      have hsz3 : (yC.setRow tb #[v3, o3]).heap.size = yC.heap.size := by simp [World.setRow]
      subst hv3
      subst hq3
      have had2 := HIH.out C (by omega) gc oc cc (ns ++ [⟨l, -1, -1, 0, 0⟩] ++ GA) (od ++ OA) (.slice a3 (bn + 1 + gn) k3) (.slice b3 om q3) (yC.setRow tb #[.slice a3 (bn + 1 + gn) k3, .slice b3 om q3]) ⟨hcb1, by omega, HLA.out.2, hccc, by rw [hsz3]; omega, hMr, fun j hj => (hKr.below.cell (p := ⟨gp, op + j, none⟩) hgp).trans (HPP.out j hj), by rw [hsz3]; omega, hn3, ho3, fun j hj => (World.cell?_of_block (w := yC) (a := ⟨gc, oc + j, none⟩) (hO3 gc hgct)).trans (hcC j hj), by rw [hlen2]; omega, by rw [← hom]; omega⟩
      rw [← e1] at had2
      have HHr := Lib.hid htC
      have hHi := Lib.hid (show (Try.prog.info? 33).map (·.size) = some (#[.slice a3 (bn + 1 + gn) k3, .slice b3 om q3] : Array Value).size by kernel_rfl)
      have hHz := Lib.hid (show (#[.slice (some ⟨gN, 0, none⟩) (bn + 1) capN, .slice ao bo ko] : Array Value).size = (#[.slice a3 (bn + 1 + gn) k3, .slice b3 om q3] : Array Value).size from rfl)
      have hHo := Lib.hid (show (#[.slice a3 (bn + 1 + gn) k3, .slice b3 om q3] : Array Value).all (·.oneCell') = true by simp [Value.oneCell'])
      have HMr := Lib.hid hMr
      have HKr := Lib.hid hKr
      have HAD2 := Lib.hid had2
      have HGA := Lib.hid hGA
      have HOA := Lib.hid hOA
      have HGN := Lib.hid hgn
      have HOM := Lib.hid hom
      have HOM2 := Lib.hid hom2
      have HLEN := Lib.hid hlen2
      have HGL := Lib.hid hg1
      have hrD := (hO3 rb (Ne.symm htr)).trans hrC
      have hgm1 : 1 ≤ gn := by omega
      have hgm2 : gn ≤ 2000 := by omega
      have hom3 : om ≤ 200000 := by omega
      clear hM3 hK3 hKC hMr hKr hO3 hsz3 had2 htC hrC hcC hn3 ho3 hGA hOA hgn hom hom2 hlen2 hg1 e0 e1
      go_upto_region 11 with (refine Au.wpList_store_row rfl 33 (.tmp 3) (.tmp 60) rfl yC #[.slice (some ⟨gN, 0, none⟩) (bn + 1) capN, .slice ao bo ko] #[.slice a3 (bn + 1 + gn) k3, .slice b3 om q3] tb 33 HHr.out rfl rfl hHi.out hHz.out hHo.out ?_)
      obtain ⟨yD, hyD⟩ : ∃ y, yC.setRow tb #[.slice a3 (bn + 1 + gn) k3, .slice b3 om q3] = y := ⟨_, rfl⟩
      rw [hyD] at HMr HKr HAD2 hrD hN3 ⊢
      clear hyD HHr hHi hHz hHo
      have c0 := cell_of_row _ _ 0 _ _ _ hN3
      have c1 := cell_of_row _ _ 1 _ _ _ hN3
      simp at c0 c1
      have HTD := Lib.hid hN3
      have HRD := Lib.hid hrD
      have hlt2 := lt_heap hN3
      have hlr2 := lt_heap hrD
      clear hN3 hrD
      go_upto_region 12 with fail
      go_wp2_with fail
      refine HAD2.out.mono ?_
      rintro e yE ⟨v4, o4, rfl, hM4, hK4⟩
      clear c0 c1
      rw [HLEN.out, ← HOM.out] at hM4
      obtain ⟨GB, hGB⟩ : ∃ x, x = (grow PL f C (bn + 1 + gn) om).1 := ⟨_, rfl⟩
      obtain ⟨OB, hOB⟩ : ∃ x, x = (grow PL f C (bn + 1 + gn) om).2 := ⟨_, rfl⟩
      rw [← hGB, ← hOB] at hM4
      have hlist : ns ++ [(⟨l, -1, -1, 0, 0⟩ : Nd)] ++ GA ++ GB = ns ++ ⟨l, -1, -1, 0, 0⟩ :: (GA ++ GB) := by simp
      rw [hlist] at hM4
      obtain ⟨gm, hgm⟩ : ∃ x, x = GB.length := ⟨_, rfl⟩
      have hlenM : (ns ++ (⟨l, -1, -1, 0, 0⟩ : Nd) :: (GA ++ GB)).length = bn + 1 + gn + gm := by rw [List.length_append, ← HBN.out, List.length_cons, List.length_append, ← HGN.out, ← hgm]; omega
      rcases hM4.rn.2 with ⟨-, hx⟩ | ⟨g4, k4, cur4, hv4, hg4, hcur4, -⟩
      · rw [hlenM] at hx
        exact absurd hx (by omega)
      rw [hlenM] at hv4
      obtain ⟨b4, q4, hq4⟩ := own_slice hM4.ro
      obtain ⟨on, hon⟩ : ∃ x, x = (od ++ OA ++ OB).length := ⟨_, rfl⟩
      rw [← hon] at hq4
      have htE := (hK4.other tb hlt2 (own_ne_blk HMr.out.rn HTD.out rtne2) (own_ne_blk HMr.out.ro HTD.out rtne3)).trans HTD.out
      have hrE := (hK4.other rb hlr2 (own_ne_blk HMr.out.rn HRD.out rtne2) (own_ne_blk HMr.out.ro HRD.out rtne3)).trans HRD.out
      have hMs := r_row (cs' := #[v4, o4]) hM4 htE
      have hKs := k_row (HKr.out.trans hK4) hs htw #[v4, o4]
      have hN4 := setRow_heap yE tb _ #[v4, o4] _ _ htE
      have hrF := (setRow_other yE tb rb #[v4, o4] (Ne.symm htr)).trans hrE
      subst hv4
      subst hq4
      have HHr := Lib.hid htE
      have hHi := Lib.hid (show (Try.prog.info? 33).map (·.size) = some (#[.slice (some ⟨g4, 0, none⟩) (bn + 1 + gn + gm) k4, .slice b4 on q4] : Array Value).size by kernel_rfl)
      have hHz := Lib.hid (show (#[.slice a3 (bn + 1 + gn) k3, .slice b3 om q3] : Array Value).size = (#[.slice (some ⟨g4, 0, none⟩) (bn + 1 + gn + gm) k4, .slice b4 on q4] : Array Value).size from rfl)
      have hHo := Lib.hid (show (#[.slice (some ⟨g4, 0, none⟩) (bn + 1 + gn + gm) k4, .slice b4 on q4] : Array Value).all (·.oneCell') = true by simp [Value.oneCell'])
      have HMs := Lib.hid hMs
      have HKs := Lib.hid hKs
      have HGB := Lib.hid hGB
      have HOB := Lib.hid hOB
      have HGM := Lib.hid hgm
      have HLM := Lib.hid hlenM
      clear hM4 hK4 hMs hKs htE hrE hGB hOB hlist hlenM hcur4 hg4 hon HMr HKr HTD HRD hgm
      go_upto_region 13 with (refine Au.wpList_store_row rfl 33 (.tmp 3) (.tmp 67) rfl yE #[.slice a3 (bn + 1 + gn) k3, .slice b3 om q3] #[.slice (some ⟨g4, 0, none⟩) (bn + 1 + gn + gm) k4, .slice b4 on q4] tb 33 HHr.out rfl rfl hHi.out hHz.out hHo.out ?_)
      obtain ⟨yF, hyF⟩ : ∃ y, yE.setRow tb #[.slice (some ⟨g4, 0, none⟩) (bn + 1 + gn + gm) k4, .slice b4 on q4] = y := ⟨_, rfl⟩
      rw [hyF] at HMs HKs hN4 hrF ⊢
      clear hyF HHr hHi hHz hHo
      have hrn := HMs.out.rn
      rw [HLM.out] at hrn
      obtain ⟨u1, hu1⟩ := own_cell hrn (bn * 16 + 12) (by omega)
      have fz := hrn.frozenAt
      have hgt : g4 ≠ tb := fun e => own_ne_blk hrn hN4 rtne2 (by rw [← e]; rfl)
      have hgr : g4 ≠ rb := fun e => own_ne_blk hrn hrF rtne2 (by rw [← e]; rfl)
      have hbi : (bn : Int) < (bn : Int) + 1 + gn + gm := by omega
      have c0 := cell_of_row _ _ 0 _ _ _ hN4
      simp at c0
      go_upto_region 14 with fail
      have hst := r_set (bn * 16 + 12) ((bn : Int) + 1) HLM.out.symm (ns' := ns ++ ⟨l, (bn : Int) + 1, -1, 0, 0⟩ :: (GA ++ GB)) (by simp) HMs.out (by
        have h := set_one PL ns (GA ++ GB) l (-1) (-1) 0 0 ((bn : Int) + 1) 0 ⟨l, (bn : Int) + 1, -1, 0, 0⟩ (by decide) rfl
        rw [← HBN.out] at h
        exact h)
      have htG := (setCell_heap yF g4 (bn * 16 + 12) (.int .i64 ((bn : Int) + 1)) tb (Ne.symm hgt)).trans hN4
      have hrG := (setCell_heap yF g4 (bn * 16 + 12) (.int .i64 ((bn : Int) + 1)) rb (Ne.symm hgr)).trans hrF
      obtain ⟨yG, hyG⟩ : ∃ y, yF.setCell ⟨g4, bn * 16 + 12, none⟩ (.int .i64 ((bn : Int) + 1)) = y := ⟨_, rfl⟩
      rw [hyG] at hst htG hrG ⊢
      have HMG := Lib.hid hst.1
      have HKG := Lib.hid (HKs.out.trans hst.2)
      clear hyG hst hrn hu1 fz c0 hN4 hrF HMs HKs
      have hlen3 : (ns ++ (⟨l, (bn : Int) + 1, -1, 0, 0⟩ : Nd) :: (GA ++ GB)).length = bn + 1 + gn + gm := by rw [← HLM.out]; simp
      have hrn := HMG.out.rn
      rw [hlen3] at hrn
      obtain ⟨u2, hu2⟩ := own_cell hrn (bn * 16 + 13) (by omega)
      have fz := hrn.frozenAt
      have c0 := cell_of_row _ _ 0 _ _ _ htG
      simp at c0
      go_upto_region 15 with fail
      have hst := r_set (bn * 16 + 13) ((bn : Int) + 1 + gn) hlen3.symm (ns' := ns ++ ⟨l, (bn : Int) + 1, (bn : Int) + 1 + gn, 0, 0⟩ :: (GA ++ GB)) (by simp) HMG.out (by
        have h := set_one PL ns (GA ++ GB) l ((bn : Int) + 1) (-1) 0 0 ((bn : Int) + 1 + gn) 1 ⟨l, (bn : Int) + 1, (bn : Int) + 1 + gn, 0, 0⟩ (by decide) rfl
        rw [← HBN.out] at h
        exact h)
      have htH := (setCell_heap yG g4 (bn * 16 + 13) (.int .i64 ((bn : Int) + 1 + gn)) tb (Ne.symm hgt)).trans htG
      have hrH := (setCell_heap yG g4 (bn * 16 + 13) (.int .i64 ((bn : Int) + 1 + gn)) rb (Ne.symm hgr)).trans hrG
      obtain ⟨yH, hyH⟩ : ∃ y, yG.setCell ⟨g4, bn * 16 + 13, none⟩ (.int .i64 ((bn : Int) + 1 + gn)) = y := ⟨_, rfl⟩
      rw [hyH] at hst htH hrH ⊢
      have HMH := Lib.hid hst.1
      have HKH := Lib.hid (HKG.out.trans hst.2)
      clear hyH hst hrn hu2 fz c0 hlen3 htG hrG HMG HKG
      have hHr := Lib.hid hrH
      have hHi := Lib.hid (show (Try.prog.info? 33).map (·.size) = some (#[.slice (some ⟨g4, 0, none⟩) (bn + 1 + gn + gm) k4, .slice b4 on q4] : Array Value).size by kernel_rfl)
      have hHz := Lib.hid (show (#[.slice none 0 0, .slice none 0 0] : Array Value).size = (#[.slice (some ⟨g4, 0, none⟩) (bn + 1 + gn + gm) k4, .slice b4 on q4] : Array Value).size from rfl)
      have hHo := Lib.hid (show (#[.slice (some ⟨g4, 0, none⟩) (bn + 1 + gn + gm) k4, .slice b4 on q4] : Array Value).all (·.oneCell') = true by simp [Value.oneCell'])
      have c0 := cell_of_row _ _ 0 _ _ _ htH
      have c1 := cell_of_row _ _ 1 _ _ _ htH
      simp at c0 c1
      go_wp2_with (first | (refine Au.wpList_store_row rfl 33 (.tmp 6) (.tmp 80) rfl yH #[.slice none 0 0, .slice none 0 0] #[.slice (some ⟨g4, 0, none⟩) (bn + 1 + gn + gm) k4, .slice b4 on q4] rb 33 hHr.out rfl rfl hHi.out hHz.out hHo.out ?_))
      have hN := setRow_heap yH rb _ #[.slice (some ⟨g4, 0, none⟩) (bn + 1 + gn + gm) k4, .slice b4 on q4] _ _ hrH
      have d0 := cell_of_row _ _ 0 _ _ _ hN
      have d1 := cell_of_row _ _ 1 _ _ _ hN
      simp at d0 d1
      refine bodyPost_ret (v := .agg #[.slice (some ⟨g4, 0, none⟩) (bn + 1 + gn + gm) k4, .slice b4 on q4]) (by simp [results, Try.results16, go_sem, d0, d1]) rfl ?_
      have hkf := k_row HKH.out hs hrw #[.slice (some ⟨g4, 0, none⟩) (bn + 1 + gn + gm) k4, .slice b4 on q4]
      rw [HVN.out, HVO.out, ← HBN.out, ← HBO.out] at hkf
      refine ⟨_, _, rfl, ?_, hkf⟩
      have h := r_row (cs' := #[.slice (some ⟨g4, 0, none⟩) (bn + 1 + gn + gm) k4, .slice b4 on q4]) HMH.out hrH
      rw [grow_node _ _ _ _ _ (by rw [← HBL.out]; exact h4), ← HBN.out, ← HBO.out, ← HA.out, ← HC.out, ← HGA.out, ← HOA.out, ← HGN.out, ← HOM2.out, ← HGB.out, ← HOB.out, ← List.append_assoc od]
      rw [show ((bn + 1 : Nat) : Int) = (bn : Int) + 1 by omega, show ((bn + 1 + gn : Nat) : Int) = (bn : Int) + 1 + gn by omega]
      exact h

end Go.Proofs.Ytoppcnkfgmbpfaa.Tr
