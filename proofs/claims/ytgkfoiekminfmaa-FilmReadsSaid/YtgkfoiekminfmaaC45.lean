/- Films, read off bytes, by the document: Decode. -/
import Derived.Test.YtgkfoiekminfmaaC44
namespace Go.Proofs.Ytgkfoiekminfmaa.Fm
open Go Go.RowKit Go.Proofs.Ytgkfoiekminfmaa Go.Proofs.Ytgkfoiekminfmaa.Rp Go.Proofs.Ytgkfoiekminfmaa.Re Go.Proofs.Ytgkfoiekminfmaa.Au
set_option linter.unusedVariables false
set_option linter.unusedSimpArgs false

set_option maxHeartbeats 32000000 in
set_option maxRecDepth 100000 in
theorem ddecfilm (l : List UInt8) (ba : Option Addr) (bn bc : Nat) (W H : Int) (n : Nat) (M0 : Nat → Int) (t0 : St) (t1 t2 t3 t4 t5 : St) (m : Nat) (w : World) (hv : Bs w (.slice ba bn bc) l) (hbn : bn ≤ 140737488355328) (C : ∀ (g N : Nat) (X : World), MAt g N ba bn bc l (l, 0) X → Calls Try.prog 43 #[.pointer (some ⟨g, 0, none⟩)] X fun e' w' => (∃ (a : Option Addr) (k c : Nat), e' = .returned (.agg #[.int .i64 W, .int .i64 H, .slice a k c]) ∧ RwP (fun b => X.heap.size ≤ b) 3 w' a k M0 ∧ (t0.2 = 0 → k = n)) ∧ MAt g N ba bn bc l t0 w' ∧ Aft g X.heap.size X w') (hm4 : m ≤ 4294836225) (hw1 : IntKind.i64.wrap (W * H) = m) (hw2 : wrap64 (W * H) = m) (hmn : t0.2 = 0 → m = n) (e1 : t1 = itS oneE t0 m) (e2 : t2 = itS triE t1 m) (e3 : t3 = itS triE t2 m) (e4 : t4 = itS smlE t3 m) (e5 : t5 = itS smlE t4 m) (er : Int) (hE : er = (endS t5).2) : Calls Try.prog 23 #[.slice ba bn bc] w fun e' w' => ((er = 0 ∧ okF (⟨W, H, n, n, n, n, n, n, M0, itV oneE oneV 1 t0, itV triE triV 3 t1, itV triE triV 3 t2, itV smlE smlV 1 t3, itV smlE smlV 1 t4⟩ : Flm) ∧ ∃ p : Pl, e' = .returned (.tuple #[.agg (FC (⟨W, H, n, n, n, n, n, n, M0, itV oneE oneV 1 t0, itV triE triV 3 t1, itV triE triV 3 t2, itV smlE smlV 1 t3, itV smlE smlV 1 t4⟩ : Flm) p), .int .i64 0]) ∧ FAtP (fun b => w.heap.size ≤ b) w' (⟨W, H, n, n, n, n, n, n, M0, itV oneE oneV 1 t0, itV triE triV 3 t1, itV triE triV 3 t2, itV smlE smlV 1 t3, itV smlE smlV 1 t4⟩ : Flm) p) ∨ (er = 0 ∧ ¬ okF (⟨W, H, n, n, n, n, n, n, M0, itV oneE oneV 1 t0, itV triE triV 3 t1, itV triE triV 3 t2, itV smlE smlV 1 t3, itV smlE smlV 1 t4⟩ : Flm) ∧ e' = .returned (.tuple #[.agg #[.int .i64 0, .int .i64 0, .slice none 0 0, .slice none 0 0, .slice none 0 0, .slice none 0 0, .slice none 0 0, .slice none 0 0], .int .i64 10])) ∨ (¬ er = 0 ∧ e' = .returned (.tuple #[.agg #[.int .i64 0, .int .i64 0, .slice none 0 0, .slice none 0 0, .slice none 0 0, .slice none 0 0, .slice none 0 0, .slice none 0 0], .int .i64 er]))) ∧ Below w.heap.size w w' := by
  have HV := Lib.hid hv
  have HC := Lib.hid C
  clear hv C
  have HE := Lib.hid hE
  have HMN := Lib.hid hmn
  clear hE hmn
  have E1 := Lib.hid e1
  clear e1
  have E2 := Lib.hid e2
  clear e2
  have E3 := Lib.hid e3
  clear e3
  have E4 := Lib.hid e4
  clear e4
  have E5 := Lib.hid e5
  clear e5
  go_enter Try.func23, Try.ntmps23
  go_upto_region 1 with fail
  have hR := Au.rows1 w (.cells #[.int .i64 0, .int .i64 0, .slice none 0 0, .slice none 0 0, .slice none 0 0, .slice none 0 0, .slice none 0 0, .slice none 0 0] 29)
  have HUx := Ve.below_n1 w (.cells #[.int .i64 0, .int .i64 0, .slice none 0 0, .slice none 0 0, .slice none 0 0, .slice none 0 0, .slice none 0 0, .slice none 0 0] 29)
  obtain ⟨y0, hy0⟩ : ∃ y0, w.alloc (.cells #[.int .i64 0, .int .i64 0, .slice none 0 0, .slice none 0 0, .slice none 0 0, .slice none 0 0, .slice none 0 0, .slice none 0 0] 29) = y0 := ⟨_, rfl⟩
  rw [hy0] at hR HUx ⊢
  clear hy0
  have HU0 := Lib.hid HUx
  clear HUx
  have hr0_0 := hR
  clear hR
  have hlz := lt_heap hr0_0
  have hz0 := HU0.out.size
  go_upto_region 2 with fail
  have hb1 := Ve.below_n1 y0 (.cells #[.slice ba bn bc, .int .i64 0, .int .i64 0] 97)
  have hN := heap_alloc_last y0 (.cells #[.slice ba bn bc, .int .i64 0, .int .i64 0] 97)
  obtain ⟨y1, hy1⟩ : ∃ y, y0.alloc (.cells #[.slice ba bn bc, .int .i64 0, .int .i64 0] 97) = y := ⟨_, rfl⟩
  have hs1 : y1.heap.size = y0.heap.size + 1 := by rw [← hy1]; simp
  rw [hy1] at hb1 hN ⊢
  clear hy1
  have hl1_0 := lt_heap hr0_0
  have hr1_0 := (hb1.block _ (lt_heap hr0_0)).trans hr0_0
  have HU1 := Lib.hid (HU0.out.trans (hb1.mono HU0.out.size))
  clear hr0_0 HU0
  have hr1_1 := hN
  clear hN
  obtain ⟨N, hN⟩ : ∃ N, N = w.heap.size := ⟨_, rfl⟩
  obtain ⟨g, hg⟩ : ∃ g, g = y0.heap.size := ⟨_, rfl⟩
  rw [← hg] at hr1_1 ⊢
  have hgw : w.heap.size < g := by omega
  have hgl0 : g < y1.heap.size := lt_heap hr1_1
  have HP1 := Lib.hid (show MAt g N ba bn bc l (l, 0) y1 from ⟨by omega, hgl0, fun j => by simp [World.frozen?, hr1_1], cell_of_row _ _ 0 _ _ _ hr1_1, cell_of_row _ _ 2 _ _ _ hr1_1, HV.out.on HU1.out, hbn, fun ad e he => by have := bs_lt HV.out e he; omega, 0, Nat.zero_le _, by simp, cell_of_row _ _ 1 _ _ _ hr1_1⟩)
  clear hg hN hs1
  have HUb := Lib.hid (Aft.of (g := g) (base := w.heap.size) HU1.out)
  clear HU1
  have HU1 := HUb
  clear HUb
  have hz1 := HU1.out.size
  have c0_0 := cell_of_row _ _ 0 _ _ _ hr1_0
  have c0_1 := cell_of_row _ _ 1 _ _ _ hr1_0
  have c0_2 := cell_of_row _ _ 2 _ _ _ hr1_0
  have c0_3 := cell_of_row _ _ 3 _ _ _ hr1_0
  have c0_4 := cell_of_row _ _ 4 _ _ _ hr1_0
  have c0_5 := cell_of_row _ _ 5 _ _ _ hr1_0
  have c0_6 := cell_of_row _ _ 6 _ _ _ hr1_0
  have c0_7 := cell_of_row _ _ 7 _ _ _ hr1_0
  simp at c0_0 c0_1 c0_2 c0_3 c0_4 c0_5 c0_6 c0_7
  go_wp2_with fail
  refine (HC.out g N _ HP1.out).mono ?_
  rintro e y2 ⟨⟨al, kl, cl, rfl, hla, hkl⟩, hp2, hb2⟩
  have HP2 := Lib.hid hp2
  have hz2 := hb2.size
  clear c0_0 c0_1 c0_2 c0_3 c0_4 c0_5 c0_6 c0_7
  have hr2_0 := (hb2.block _ (lt_heap hr1_0) (lt_heap hr1_0) (by omega)).trans hr1_0
  have HU2 := Lib.hid (HU1.out.trans (hb2.mono HU1.out.size))
  clear hr1_0 HU1
  have HKL := Lib.hid hkl
  clear hkl
  obtain ⟨q, hq⟩ : ∃ q, q = y2.heap.size := ⟨_, rfl⟩
  have HLl2 := Lib.hid (lq_of (lo := g + 1) (q := q) hla (by decide) (by omega) (by omega))
  clear hla
  go_upto_region 3 with fail
  have hb3 := Ve.below_n1 y2 (.cells #[.int .i64 W, .int .i64 H, .slice al kl cl, .slice none 0 0, .slice none 0 0, .slice none 0 0, .slice none 0 0, .slice none 0 0] 29)
  have hp3 := HP2.out.new hb3
  have hb3 := Aft.of (g := g) (base := y2.heap.size) hb3
  have hN := heap_alloc_last y2 (.cells #[.int .i64 W, .int .i64 H, .slice al kl cl, .slice none 0 0, .slice none 0 0, .slice none 0 0, .slice none 0 0, .slice none 0 0] 29)
  obtain ⟨y3, hy3⟩ : ∃ y, y2.alloc (.cells #[.int .i64 W, .int .i64 H, .slice al kl cl, .slice none 0 0, .slice none 0 0, .slice none 0 0, .slice none 0 0, .slice none 0 0] 29) = y := ⟨_, rfl⟩
  have hs3 : y3.heap.size = y2.heap.size + 1 := by rw [← hy3]; simp
  rw [hy3] at hb3 hN hp3 ⊢
  clear hy3
  have HP3 := Lib.hid hp3
  have hz3 := hb3.size
  have hl3_0 := lt_heap hr2_0
  have hr3_0 := (hb3.block _ (lt_heap hr2_0) (lt_heap hr2_0) (by omega)).trans hr2_0
  have HU3 := Lib.hid (HU2.out.trans (hb3.mono HU2.out.size))
  have HLl3 := Lib.hid (HLl2.out.aft hb3 (by omega))
  clear HLl2
  clear hr2_0 HU2
  have hr3_1 := hN
  clear hN
  rw [← hq] at hr3_1 ⊢
  have hqa : q ≤ y2.heap.size := by omega
  have hqw : w.heap.size < q := by omega
  have hqg : g < q := by omega
  have hql := lt_heap hr3_1
  clear hq hs3
  have c1_0 := cell_of_row _ _ 0 _ _ _ hr3_1
  have c1_1 := cell_of_row _ _ 1 _ _ _ hr3_1
  have c1_2 := cell_of_row _ _ 2 _ _ _ hr3_1
  have c1_3 := cell_of_row _ _ 3 _ _ _ hr3_1
  have c1_4 := cell_of_row _ _ 4 _ _ _ hr3_1
  have c1_5 := cell_of_row _ _ 5 _ _ _ hr3_1
  have c1_6 := cell_of_row _ _ 6 _ _ _ hr3_1
  have c1_7 := cell_of_row _ _ 7 _ _ _ hr3_1
  simp at c1_0 c1_1 c1_2 c1_3 c1_4 c1_5 c1_6 c1_7
  go_upto_region 4 with fail
  clear c1_0 c1_1 c1_2 c1_3 c1_4 c1_5 c1_6 c1_7
  have hqyd := lt_heap hr3_1
  have hwyd := HU3.out.size
  (try clear hlz); (try clear hz0); (try clear hb1); (try clear hs1); (try clear hl1_0); (try clear hz1); (try clear hb2); (try clear hz2); (try clear hb3); (try clear hs3); (try clear hz3); (try clear hl3_0)
  obtain ⟨bd, hb_d⟩ : ∃ b, b = y3.heap.size := ⟨_, rfl⟩
  have hbqd : q < bd := by rw [hb_d]; exact lt_heap hr3_1
  have hbgd : g < bd := by omega
  have hbed : bd ≤ y3.heap.size := by omega
  have hbfd : y3.heap.size ≤ bd := by omega
  clear hb_d
  go_upto_block 0 with fail
  go_cut [7] (fun i wx => ∃ (k : Nat) (v : Value), k ≤ m ∧ ((itS oneE t0 m).2 = 0 → k = m) ∧ wx.heap[q]? = some (.cells #[.int .i64 W, .int .i64 H, .slice al kl cl, v, .slice none 0 0, .slice none 0 0, .slice none 0 0, .slice none 0 0] 29 (0, 0)) ∧ Hid (wx.ownsRow bd 2 1 v k (flatc 1 (itV oneE oneV 1 t0) k)) ∧ Hid (MAt g N ba bn bc l (itS oneE t0 m) wx) ∧ Hid (Aw (Sq bd q g) y3 wx))
  case first =>
    go_upto_region 5 with fail
    go_loopw [7] (fun i wr => ∃ (k : Nat) (v : Value), k ≤ m ∧ i = .int .i64 k ∧ wr.heap[q]? = some (.cells #[.int .i64 W, .int .i64 H, .slice al kl cl, v, .slice none 0 0, .slice none 0 0, .slice none 0 0, .slice none 0 0] 29 (0, 0)) ∧ Hid (wr.ownsRow bd 2 1 v k (flatc 1 (itV oneE oneV 1 t0) k)) ∧ Hid (MAt g N ba bn bc l (itS oneE t0 k) wr) ∧ Hid (Aw (Sq bd q g) y3 wr)) (fun i _ => m - (intOf i).toNat)
    case atStart => exact ⟨0, _, by omega, rfl, hr3_1, Lib.hid (by simpa [flatc] using World.ownsRow_nil _ _ _ _), HP3, Lib.hid (Aw.refl _ _)⟩
    case round =>
      obtain ⟨k, v, hk, rfl, hrq, HO, HM, HA⟩ := hrel
      have hsz := HA.out.size
      obtain ⟨s0, hs0⟩ : ∃ s : St, s = itS oneE t0 k := ⟨_, rfl⟩
      rw [← hs0] at HM
      have HS0 := Lib.hid hs0
      clear hs0
      obtain ⟨he, hf, -, hgl⟩ := HM.out.err
      obtain ⟨te, hte⟩ : ∃ te, te = s0.2 := ⟨_, rfl⟩
      rw [← hte] at he
      have HTE := Lib.hid hte
      clear hte
      by_cases hlt : k < m
      · have hlt' : (k : Int) < m := by omega
        by_cases h0 : te = 0
        · subst h0
          obtain ⟨i0, hi, hz0, hz1, hz2⟩ := info_parts info_i64
          obtain ⟨m0, hm0⟩ : ∃ x, x = oneV s0 0 := ⟨_, rfl⟩
          have HX := Lib.hid (show flatc 1 (itV oneE oneV 1 t0) (k + 1) = flatc 1 (itV oneE oneV 1 t0) k ++ [.int .i64 m0] by rw [stp_fix, ← HS0.out, ← hm0])
          have HXV := Lib.hid (And.intro hm0 True.intro)
          clear hm0
          go_upto_region 7 with fail
          refine Ol.way_drew (S := fun y => y.heap[q]? = some (.cells #[.int .i64 W, .int .i64 H, .slice al kl cl, v, .slice none 0 0, .slice none 0 0, .slice none 0 0, .slice none 0 0] 29 (0, 0))) (stop := 7) (by kernel_rfl) (hrq) (fun hS0 => ?_)
          obtain ⟨z0, hz0_⟩ : ∃ y, wr.drew = y := ⟨_, rfl⟩
          have HA0 := Lib.hid (show Aw (Sq bd q g) y3 z0 by rw [← hz0_]; exact HA.out.trans (Aw.of (Below.refl _ _).drew))
          have HO0 := Lib.hid (show z0.ownsRow bd 2 1 v k (flatc 1 (itV oneE oneV 1 t0) k) by rw [← hz0_]; exact Ls.own_below HO.out (Below.refl _ _).drew)
          have HM0 := Lib.hid (show MAt g N ba bn bc l s0 z0 by rw [← hz0_]; exact mat_drew HM.out)
          have hs0 : wr.heap.size ≤ z0.heap.size := by rw [← hz0_]; exact Nat.le_refl _
          rw [hz0_] at hS0 ⊢
          clear hz0_
          refine Ol.way_plain (i := 0) (v := ?_) rfl (by kernel_rfl) (by kernel_rfl) (by kernel_rfl) (fun _ _ _ h => h) (by decide) (Or.inl ⟨by kernel_rfl, by (intro wz _; go_simp; try with_reducible rfl)⟩) (Ol.on hS0) ?_
          go_simp
          refine Ol.way_take (i := 1) (v := ?_) rfl (by kernel_rfl) (by kernel_rfl) (by kernel_rfl) (fun _ _ _ h => h) (by decide) (by kernel_rfl) (by kernel_rfl) (Or.inl ⟨by kernel_rfl, by (intro wz hSz; have cq_ := cell_of_row _ _ 3 _ _ _ hSz; simp at cq_; go_simp; try with_reducible rfl)⟩) hS0 ?_
          go_simp
          refine Ol.way_plain (i := 2) (v := ?_) rfl (by kernel_rfl) (by kernel_rfl) (by kernel_rfl) (fun _ _ _ h => h) (by decide) (Or.inl ⟨by kernel_rfl, by (intro wz _; go_simp; try with_reducible rfl)⟩) (Ol.on hS0) ?_
          go_simp
          refine Ol.way_ready (rs := [3]) (by kernel_rfl) (by simp) ?_
          refine Ol.Each.cons rfl (fun K hK => ?_) Ol.Each.nil
          go_simp
          go_wp2_with (go_at_call 46; refine (show Calls _ _ _ _ (fun e w' => e = .returned (.int .i64 m0) ∧ MAt g N ba bn bc l (oneE s0) w' ∧ Aft g _ _ w') from by rw [HXV.out.1]; exact mfix_any g N ba bn bc l s0 _ HM0.out).mono ?_; rintro e z1 ⟨rfl, hm1, ha1⟩)
          have HA1 := Lib.hid (HA0.out.trans (aw_aft ha1))
          have HO1 := Lib.hid (own_aft HO0.out ha1 (by omega))
          have HM1 := Lib.hid hm1
          have hs1 := ha1.size
          have hq1 := (ha1.block q (lt_heap hS0) (lt_heap hS0) (by omega)).trans hS0
          refine Ol.keep hK _ _ (hq1) (fun hS1 => ?_)
          clear hK K
          refine Ol.way_ready (rs := [4]) (by kernel_rfl) (by simp) ?_
          refine Ol.Each.cons rfl (fun K hK => ?_) Ol.Each.nil
          go_simp
          have hb2 := Ve.below_n1 z1 (.cells #[.int .i64 m0] 2)
          have hN2 := heap_alloc_last z1 (.cells #[.int .i64 m0] 2)
          obtain ⟨z2, hz2_⟩ : ∃ y, z1.alloc (.cells #[.int .i64 m0] 2) = y := ⟨_, rfl⟩
          rw [hz2_] at hb2 hN2 ⊢
          clear hz2_
          have HA2 := Lib.hid (HA1.out.trans (Aw.of hb2))
          have HO2 := Lib.hid (Ls.own_below HO1.out hb2)
          have HM2 := Lib.hid (HM1.out.on hb2)
          have hs2 := hb2.size
          refine Ol.keep hK _ _ ((hb2.block _ (lt_heap hS1)).trans hS1) (fun hS2 => ?_)
          clear hK K
          refine Ol.way_ready (rs := [5]) (by kernel_rfl) (by simp) ?_
          refine Ol.Each.cons rfl (fun K hK => ?_) Ol.Each.nil
          refine step_append_lies _ rfl _ _ 25 rfl bd 2 i0 (.int .i64 0) 1 8 Try.underlying25 hi hz0 hz1 hz2 rfl (by decide) _ _ _ rfl HO2.out ⟨z1.heap.size, 0, none⟩ 1 1 [.int .i64 m0] rfl rfl ?c1 ?c2 (by omega) ?c3 ?c4 ?c5 _ rfl ?_
          case c1 => exact World.news_of_block hN2
          case c2 => intro u hu; simp at hu; rcases hu with rfl <;> rfl
          case c3 => unfold maxLen; omega
          case c4 => omega
          case c5 => omega
          intro g9 cg z3 hown hgrow hgk hlt2
          have hqo := fun r hr => (HO2.out.lt r hr).1
          have HA3 := Lib.hid (HA2.out.step hgrow (fun r hr => by have := hqo r hr; omega))
          rw [← HX.out] at hown
          have hqn : q ≠ g9 := by rcases hgk with h | h <;> first | omega | (have := hqo _ h; omega)
          have hq3 := (hgrow.block q (lt_heap hS2) (fun e => by have := hqo _ e.symm; omega)).trans hS2
          have hs3 := hgrow.size
          have HM3 := Lib.hid (mat_near HM2.out ((Below.refl (g + 1) _).grown hgrow (by omega) (fun r hr => by have := hqo r hr; omega)))
          refine Ol.keep hK _ _ (hq3) (fun hS3 => ?_)
          clear hK K
          refine Ol.way_plain (i := 6) (v := ?_) rfl (by kernel_rfl) (by kernel_rfl) (by kernel_rfl) (fun _ _ _ h => h) (by decide) (Or.inl ⟨by kernel_rfl, by (intro wz _; go_simp; try with_reducible rfl)⟩) (Ol.on hS3) ?_
          go_simp
          refine Ol.way_ready (rs := [7]) (by kernel_rfl) (by simp) ?_
          refine Ol.Each.cons rfl (fun K hK => ?_) Ol.Each.nil
          have p0 := cell_of_row _ _ 3 _ _ _ hq3
          simp at p0
          have fz : ∀ j, z3.frozen? ⟨q, j, none⟩ = false := fun j => by simp [World.frozen?, hq3]
          go_simp
          clear fz p0
          have hN : (z3.setCell ⟨q, 3, none⟩ (.slice (some ⟨g9, 0, none⟩) (k + 1) cg)).heap[q]? = some (.cells #[.int .i64 W, .int .i64 H, .slice al kl cl, .slice (some ⟨g9, 0, none⟩) (k + 1) cg, .slice none 0 0, .slice none 0 0, .slice none 0 0, .slice none 0 0] 29 (0, 0)) := heap_setCell_same _ _ 3 _ _ _ hq3
          have HA4 := Lib.hid (HA3.out.set (b := q) (fun h => h.2.1 rfl) 3 (.slice (some ⟨g9, 0, none⟩) (k + 1) cg))
          have HM4 := Lib.hid (show MAt g N ba bn bc l (itS oneE t0 (k + 1)) (z3.setCell ⟨q, 3, none⟩ (.slice (some ⟨g9, 0, none⟩) (k + 1) cg)) by show MAt g N ba bn bc l (oneE (itS oneE t0 k)) _; rw [← HS0.out]; exact HM3.out.setFar (by omega) _ _)
          have HO4 := Lib.hid (own_via (w' := (z3.setCell ⟨q, 3, none⟩ (.slice (some ⟨g9, 0, none⟩) (k + 1) cg))) hown (fun r hr => Below.heap_setCell _ _ _ _ (by simp [Value.ownBlock] at hr; show r ≠ q; omega)))
          refine Ol.past hK (by kernel_rfl) _ _ ?_
          clear hK K
          refine Ol.way_done (by kernel_rfl) ?_ _
          go_wp2
          go_roundw
          case rel => exact ⟨k + 1, _, by omega, by go_num, hN, HO4, HM4, HA4⟩
          case measure => simp [intOf]; omega
        · have d1 : (te == 0) = false := by simpa using h0
          have d2 := decide_eq_false h0
          have hkp : itS oneE t0 m = s0 := by rw [it_stop one_keep (k := k) (by rw [← HS0.out, ← HTE.out]; exact h0) m hk]; exact HS0.out.symm
          have hkn : (itS oneE t0 m).2 ≠ 0 := by rw [hkp, ← HTE.out]; exact h0
          have HMx := Lib.hid (show MAt g N ba bn bc l (itS oneE t0 m) wr by rw [hkp]; exact HM.out)
          have HKN := Lib.hid hkn
          clear hkp hkn
          go_wp2_with fail
          go_meet
          exact ⟨k, v, hk, fun h => absurd h HKN.out, hrq, HO, HMx, HA⟩
      · have HKK := Lib.hid (show k = m by omega)
        have hge : ¬ (k : Int) < m := by omega
        clear hlt
        have HMx := Lib.hid (show MAt g N ba bn bc l (itS oneE t0 m) wr by rw [← HKK.out, ← HS0.out]; exact HM.out)
        go_wp2_with fail
        go_meet
        exact ⟨k, v, hk, fun _ => HKK.out, hrq, HO, HMx, HA⟩
  case rest =>
    obtain ⟨kd, vd, hkd, hokd, hr4_1, HOd, HPx, HAd⟩ := hcut
    obtain ⟨y4, hwc⟩ : ∃ y : World, y = wc := ⟨_, rfl⟩
    rw [← hwc] at hr4_1 HOd HPx HAd ⊢
    clear hwc
    have HOKd := Lib.hid hokd
    clear hokd
    obtain ⟨ad, cd, hvd⟩ := own_slice HOd.out
    subst hvd
    have hr4_0 := (HAd.out.block _ ⟨by have := lt_heap hr3_0; omega, by have := lt_heap hr3_0; omega, by have := lt_heap hr3_0; omega⟩ (lt_heap hr3_0)).trans hr3_0
    have hz4 := HAd.out.size
    have HU4 := Lib.hid (aft_of_sq HU3.out HAd.out (by omega) (by omega) (by omega) (by omega))
    have HP4 := HPx
    clear HPx
    have HLl4 := Lib.hid (Lq.aw HLl3.out HAd.out (by omega) (by omega))
    clear HLl3
    have HLd4 := Lib.hid (show Lq (g + 1) q 1 ad kd (itV oneE oneV 1 t0) y4 from ⟨by decide, rwp_own _ HOd.out (fun b h1 _ _ => ⟨by omega, by omega⟩)⟩)
    clear HOd HAd
    clear hr3_0 hr3_1 HU3 HP3
    rw [← E1.out] at HP4 HOKd
    have hqyv := lt_heap hr4_1
    have hwyv := HU4.out.size
    (try clear hlz); (try clear hz0); (try clear hb1); (try clear hs1); (try clear hl1_0); (try clear hz1); (try clear hb2); (try clear hz2); (try clear hb3); (try clear hs3); (try clear hz3); (try clear hl3_0); (try clear hqyd); (try clear hwyd); (try clear hbqd); (try clear hbgd); (try clear hbed); (try clear hbfd); (try clear hs0); (try clear hs2)
    (try clear hz4)
    obtain ⟨bv, hb_v⟩ : ∃ b, b = y4.heap.size := ⟨_, rfl⟩
    have hbqv : q < bv := by rw [hb_v]; exact lt_heap hr4_1
    have hbgv : g < bv := by omega
    have hbev : bv ≤ y4.heap.size := by omega
    have hbfv : y4.heap.size ≤ bv := by omega
    clear hb_v
    go_upto_block 2 with fail
    go_cut [8] (fun i wx => ∃ (k : Nat) (v : Value), k ≤ m ∧ ((itS triE t1 m).2 = 0 → k = m) ∧ wx.heap[q]? = some (.cells #[.int .i64 W, .int .i64 H, .slice al kl cl, .slice ad kd cd, v, .slice none 0 0, .slice none 0 0, .slice none 0 0] 29 (0, 0)) ∧ Hid (wx.ownsRow bv 71 3 v k (flatc 3 (itV triE triV 3 t1) k)) ∧ Hid (MAt g N ba bn bc l (itS triE t1 m) wx) ∧ Hid (Aw (Sq bv q g) y4 wx))
    case first =>
      go_upto_region 9 with fail
      go_loopw [8] (fun i wr => ∃ (k : Nat) (v : Value), k ≤ m ∧ i = .int .i64 k ∧ wr.heap[q]? = some (.cells #[.int .i64 W, .int .i64 H, .slice al kl cl, .slice ad kd cd, v, .slice none 0 0, .slice none 0 0, .slice none 0 0] 29 (0, 0)) ∧ Hid (wr.ownsRow bv 71 3 v k (flatc 3 (itV triE triV 3 t1) k)) ∧ Hid (MAt g N ba bn bc l (itS triE t1 k) wr) ∧ Hid (Aw (Sq bv q g) y4 wr)) (fun i _ => m - (intOf i).toNat)
      case atStart => exact ⟨0, _, by omega, rfl, hr4_1, Lib.hid (by simpa [flatc] using World.ownsRow_nil _ _ _ _), HP4, Lib.hid (Aw.refl _ _)⟩
      case round =>
        obtain ⟨k, v, hk, rfl, hrq, HO, HM, HA⟩ := hrel
        have hsz := HA.out.size
        obtain ⟨s0, hs0⟩ : ∃ s : St, s = itS triE t1 k := ⟨_, rfl⟩
        rw [← hs0] at HM
        have HS0 := Lib.hid hs0
        clear hs0
        obtain ⟨he, hf, -, hgl⟩ := HM.out.err
        obtain ⟨te, hte⟩ : ∃ te, te = s0.2 := ⟨_, rfl⟩
        rw [← hte] at he
        have HTE := Lib.hid hte
        clear hte
        by_cases hlt : k < m
        · have hlt' : (k : Int) < m := by omega
          by_cases h0 : te = 0
          · subst h0
            obtain ⟨i0, hi, hz0, hz1, hz2⟩ := info_parts info_dvec
            obtain ⟨m0, hm0⟩ : ∃ x, x = triV s0 0 := ⟨_, rfl⟩
            obtain ⟨m1, hm1⟩ : ∃ x, x = triV s0 1 := ⟨_, rfl⟩
            obtain ⟨m2, hm2⟩ : ∃ x, x = triV s0 2 := ⟨_, rfl⟩
            have HX := Lib.hid (show flatc 3 (itV triE triV 3 t1) (k + 1) = flatc 3 (itV triE triV 3 t1) k ++ [.int .i64 m0, .int .i64 m1, .int .i64 m2] by rw [stp_hue, ← HS0.out, ← hm0, ← hm1, ← hm2])
            have HXV := Lib.hid (And.intro hm0 (And.intro hm1 hm2))
            clear hm0 hm1 hm2
            go_upto_region 11 with fail
            refine Ol.way_drew (S := fun y => y.heap[q]? = some (.cells #[.int .i64 W, .int .i64 H, .slice al kl cl, .slice ad kd cd, v, .slice none 0 0, .slice none 0 0, .slice none 0 0] 29 (0, 0))) (stop := 7) (by kernel_rfl) (hrq) (fun hS0 => ?_)
            obtain ⟨z0, hz0_⟩ : ∃ y, wr.drew = y := ⟨_, rfl⟩
            have HA0 := Lib.hid (show Aw (Sq bv q g) y4 z0 by rw [← hz0_]; exact HA.out.trans (Aw.of (Below.refl _ _).drew))
            have HO0 := Lib.hid (show z0.ownsRow bv 71 3 v k (flatc 3 (itV triE triV 3 t1) k) by rw [← hz0_]; exact Ls.own_below HO.out (Below.refl _ _).drew)
            have HM0 := Lib.hid (show MAt g N ba bn bc l s0 z0 by rw [← hz0_]; exact mat_drew HM.out)
            have hs0 : wr.heap.size ≤ z0.heap.size := by rw [← hz0_]; exact Nat.le_refl _
            rw [hz0_] at hS0 ⊢
            clear hz0_
            refine Ol.way_plain (i := 0) (v := ?_) rfl (by kernel_rfl) (by kernel_rfl) (by kernel_rfl) (fun _ _ _ h => h) (by decide) (Or.inl ⟨by kernel_rfl, by (intro wz _; go_simp; try with_reducible rfl)⟩) (Ol.on hS0) ?_
            go_simp
            refine Ol.way_take (i := 1) (v := ?_) rfl (by kernel_rfl) (by kernel_rfl) (by kernel_rfl) (fun _ _ _ h => h) (by decide) (by kernel_rfl) (by kernel_rfl) (Or.inl ⟨by kernel_rfl, by (intro wz hSz; have cq_ := cell_of_row _ _ 4 _ _ _ hSz; simp at cq_; go_simp; try with_reducible rfl)⟩) hS0 ?_
            go_simp
            refine Ol.way_plain (i := 2) (v := ?_) rfl (by kernel_rfl) (by kernel_rfl) (by kernel_rfl) (fun _ _ _ h => h) (by decide) (Or.inl ⟨by kernel_rfl, by (intro wz _; go_simp; try with_reducible rfl)⟩) (Ol.on hS0) ?_
            go_simp
            refine Ol.way_ready (rs := [3]) (by kernel_rfl) (by simp) ?_
            refine Ol.Each.cons rfl (fun K hK => ?_) Ol.Each.nil
            go_simp
            go_wp2_with (go_at_call 47; refine (show Calls _ _ _ _ (fun e w' => e = .returned (.agg #[.int .i64 m0, .int .i64 m1, .int .i64 m2]) ∧ MAt g N ba bn bc l (triE s0) w' ∧ Aft g _ _ w') from by rw [HXV.out.1, HXV.out.2.1, HXV.out.2.2]; exact mvec_any g N ba bn bc l s0 _ HM0.out).mono ?_; rintro e z1 ⟨rfl, hm1, ha1⟩)
            have HA1 := Lib.hid (HA0.out.trans (aw_aft ha1))
            have HO1 := Lib.hid (own_aft HO0.out ha1 (by omega))
            have HM1 := Lib.hid hm1
            have hs1 := ha1.size
            have hq1 := (ha1.block q (lt_heap hS0) (lt_heap hS0) (by omega)).trans hS0
            refine Ol.keep hK _ _ (hq1) (fun hS1 => ?_)
            clear hK K
            refine Ol.way_ready (rs := [4]) (by kernel_rfl) (by simp) ?_
            refine Ol.Each.cons rfl (fun K hK => ?_) Ol.Each.nil
            go_simp
            have hb2 := Ve.below_n1 z1 (.cells #[.int .i64 m0, .int .i64 m1, .int .i64 m2] 71)
            have hN2 := heap_alloc_last z1 (.cells #[.int .i64 m0, .int .i64 m1, .int .i64 m2] 71)
            obtain ⟨z2, hz2_⟩ : ∃ y, z1.alloc (.cells #[.int .i64 m0, .int .i64 m1, .int .i64 m2] 71) = y := ⟨_, rfl⟩
            rw [hz2_] at hb2 hN2 ⊢
            clear hz2_
            have HA2 := Lib.hid (HA1.out.trans (Aw.of hb2))
            have HO2 := Lib.hid (Ls.own_below HO1.out hb2)
            have HM2 := Lib.hid (HM1.out.on hb2)
            have hs2 := hb2.size
            refine Ol.keep hK _ _ ((hb2.block _ (lt_heap hS1)).trans hS1) (fun hS2 => ?_)
            clear hK K
            refine Ol.way_ready (rs := [5]) (by kernel_rfl) (by simp) ?_
            refine Ol.Each.cons rfl (fun K hK => ?_) Ol.Each.nil
            refine step_append_lies _ rfl _ _ 26 rfl bv 71 i0 (.agg #[.int .i64 0, .int .i64 0, .int .i64 0]) 3 24 Try.underlying26 hi hz0 hz1 hz2 rfl (by decide) _ _ _ rfl HO2.out ⟨z1.heap.size, 0, none⟩ 1 1 [.int .i64 m0, .int .i64 m1, .int .i64 m2] rfl rfl ?c1 ?c2 (by omega) ?c3 ?c4 ?c5 _ rfl ?_
            case c1 => exact World.news_of_block hN2
            case c2 => intro u hu; simp at hu; rcases hu with rfl | rfl | rfl <;> rfl
            case c3 => unfold maxLen; omega
            case c4 => omega
            case c5 => omega
            intro g9 cg z3 hown hgrow hgk hlt2
            have hqo := fun r hr => (HO2.out.lt r hr).1
            have HA3 := Lib.hid (HA2.out.step hgrow (fun r hr => by have := hqo r hr; omega))
            rw [← HX.out] at hown
            have hqn : q ≠ g9 := by rcases hgk with h | h <;> first | omega | (have := hqo _ h; omega)
            have hq3 := (hgrow.block q (lt_heap hS2) (fun e => by have := hqo _ e.symm; omega)).trans hS2
            have hs3 := hgrow.size
            have HM3 := Lib.hid (mat_near HM2.out ((Below.refl (g + 1) _).grown hgrow (by omega) (fun r hr => by have := hqo r hr; omega)))
            refine Ol.keep hK _ _ (hq3) (fun hS3 => ?_)
            clear hK K
            refine Ol.way_plain (i := 6) (v := ?_) rfl (by kernel_rfl) (by kernel_rfl) (by kernel_rfl) (fun _ _ _ h => h) (by decide) (Or.inl ⟨by kernel_rfl, by (intro wz _; go_simp; try with_reducible rfl)⟩) (Ol.on hS3) ?_
            go_simp
            refine Ol.way_ready (rs := [7]) (by kernel_rfl) (by simp) ?_
            refine Ol.Each.cons rfl (fun K hK => ?_) Ol.Each.nil
            have p0 := cell_of_row _ _ 4 _ _ _ hq3
            simp at p0
            have fz : ∀ j, z3.frozen? ⟨q, j, none⟩ = false := fun j => by simp [World.frozen?, hq3]
            go_simp
            clear fz p0
            have hN : (z3.setCell ⟨q, 4, none⟩ (.slice (some ⟨g9, 0, none⟩) (k + 1) cg)).heap[q]? = some (.cells #[.int .i64 W, .int .i64 H, .slice al kl cl, .slice ad kd cd, .slice (some ⟨g9, 0, none⟩) (k + 1) cg, .slice none 0 0, .slice none 0 0, .slice none 0 0] 29 (0, 0)) := heap_setCell_same _ _ 4 _ _ _ hq3
            have HA4 := Lib.hid (HA3.out.set (b := q) (fun h => h.2.1 rfl) 4 (.slice (some ⟨g9, 0, none⟩) (k + 1) cg))
            have HM4 := Lib.hid (show MAt g N ba bn bc l (itS triE t1 (k + 1)) (z3.setCell ⟨q, 4, none⟩ (.slice (some ⟨g9, 0, none⟩) (k + 1) cg)) by show MAt g N ba bn bc l (triE (itS triE t1 k)) _; rw [← HS0.out]; exact HM3.out.setFar (by omega) _ _)
            have HO4 := Lib.hid (own_via (w' := (z3.setCell ⟨q, 4, none⟩ (.slice (some ⟨g9, 0, none⟩) (k + 1) cg))) hown (fun r hr => Below.heap_setCell _ _ _ _ (by simp [Value.ownBlock] at hr; show r ≠ q; omega)))
            refine Ol.past hK (by kernel_rfl) _ _ ?_
            clear hK K
            refine Ol.way_done (by kernel_rfl) ?_ _
            go_wp2
            go_roundw
            case rel => exact ⟨k + 1, _, by omega, by go_num, hN, HO4, HM4, HA4⟩
            case measure => simp [intOf]; omega
          · have d1 : (te == 0) = false := by simpa using h0
            have d2 := decide_eq_false h0
            have hkp : itS triE t1 m = s0 := by rw [it_stop tri_keep (k := k) (by rw [← HS0.out, ← HTE.out]; exact h0) m hk]; exact HS0.out.symm
            have hkn : (itS triE t1 m).2 ≠ 0 := by rw [hkp, ← HTE.out]; exact h0
            have HMx := Lib.hid (show MAt g N ba bn bc l (itS triE t1 m) wr by rw [hkp]; exact HM.out)
            have HKN := Lib.hid hkn
            clear hkp hkn
            go_wp2_with fail
            go_meet
            exact ⟨k, v, hk, fun h => absurd h HKN.out, hrq, HO, HMx, HA⟩
        · have HKK := Lib.hid (show k = m by omega)
          have hge : ¬ (k : Int) < m := by omega
          clear hlt
          have HMx := Lib.hid (show MAt g N ba bn bc l (itS triE t1 m) wr by rw [← HKK.out, ← HS0.out]; exact HM.out)
          go_wp2_with fail
          go_meet
          exact ⟨k, v, hk, fun _ => HKK.out, hrq, HO, HMx, HA⟩
    case rest =>
      obtain ⟨kv, vv, hkv, hokv, hr5_1, HOv, HPx, HAv⟩ := hcut
      obtain ⟨y5, hwc⟩ : ∃ y : World, y = wc := ⟨_, rfl⟩
      rw [← hwc] at hr5_1 HOv HPx HAv ⊢
      clear hwc
      have HOKv := Lib.hid hokv
      clear hokv
      obtain ⟨av, cv, hvv⟩ := own_slice HOv.out
      subst hvv
      have hr5_0 := (HAv.out.block _ ⟨by have := lt_heap hr4_0; omega, by have := lt_heap hr4_0; omega, by have := lt_heap hr4_0; omega⟩ (lt_heap hr4_0)).trans hr4_0
      have hz5 := HAv.out.size
      have HU5 := Lib.hid (aft_of_sq HU4.out HAv.out (by omega) (by omega) (by omega) (by omega))
      have HP5 := HPx
      clear HPx
      have HLl5 := Lib.hid (Lq.aw HLl4.out HAv.out (by omega) (by omega))
      clear HLl4
      have HLd5 := Lib.hid (Lq.aw HLd4.out HAv.out (by omega) (by omega))
      clear HLd4
      have HLv5 := Lib.hid (show Lq (g + 1) q 3 av kv (itV triE triV 3 t1) y5 from ⟨by decide, rwp_own _ HOv.out (fun b h1 _ _ => ⟨by omega, by omega⟩)⟩)
      clear HOv HAv
      clear hr4_0 hr4_1 HU4 HP4
      rw [← E2.out] at HP5 HOKv
      have hqyb := lt_heap hr5_1
      have hwyb := HU5.out.size
      (try clear hlz); (try clear hz0); (try clear hb1); (try clear hs1); (try clear hl1_0); (try clear hz1); (try clear hb2); (try clear hz2); (try clear hb3); (try clear hs3); (try clear hz3); (try clear hl3_0); (try clear hqyd); (try clear hwyd); (try clear hbqd); (try clear hbgd); (try clear hbed); (try clear hbfd); (try clear hs0); (try clear hs2)
      (try clear hz4); (try clear hqyv); (try clear hwyv); (try clear hbqv); (try clear hbgv); (try clear hbev); (try clear hbfv); (try clear hz5)
      obtain ⟨bb, hb_b⟩ : ∃ b, b = y5.heap.size := ⟨_, rfl⟩
      have hbqb : q < bb := by rw [hb_b]; exact lt_heap hr5_1
      have hbgb : g < bb := by omega
      have hbeb : bb ≤ y5.heap.size := by omega
      have hbfb : y5.heap.size ≤ bb := by omega
      clear hb_b
      go_upto_block 4 with fail
      go_cut [9] (fun i wx => ∃ (k : Nat) (v : Value), k ≤ m ∧ ((itS triE t2 m).2 = 0 → k = m) ∧ wx.heap[q]? = some (.cells #[.int .i64 W, .int .i64 H, .slice al kl cl, .slice ad kd cd, .slice av kv cv, v, .slice none 0 0, .slice none 0 0] 29 (0, 0)) ∧ Hid (wx.ownsRow bb 75 3 v k (flatc 3 (itV triE triV 3 t2) k)) ∧ Hid (MAt g N ba bn bc l (itS triE t2 m) wx) ∧ Hid (Aw (Sq bb q g) y5 wx))
      case first =>
        go_upto_region 13 with fail
        go_loopw [9] (fun i wr => ∃ (k : Nat) (v : Value), k ≤ m ∧ i = .int .i64 k ∧ wr.heap[q]? = some (.cells #[.int .i64 W, .int .i64 H, .slice al kl cl, .slice ad kd cd, .slice av kv cv, v, .slice none 0 0, .slice none 0 0] 29 (0, 0)) ∧ Hid (wr.ownsRow bb 75 3 v k (flatc 3 (itV triE triV 3 t2) k)) ∧ Hid (MAt g N ba bn bc l (itS triE t2 k) wr) ∧ Hid (Aw (Sq bb q g) y5 wr)) (fun i _ => m - (intOf i).toNat)
        case atStart => exact ⟨0, _, by omega, rfl, hr5_1, Lib.hid (by simpa [flatc] using World.ownsRow_nil _ _ _ _), HP5, Lib.hid (Aw.refl _ _)⟩
        case round =>
          obtain ⟨k, v, hk, rfl, hrq, HO, HM, HA⟩ := hrel
          have hsz := HA.out.size
          obtain ⟨s0, hs0⟩ : ∃ s : St, s = itS triE t2 k := ⟨_, rfl⟩
          rw [← hs0] at HM
          have HS0 := Lib.hid hs0
          clear hs0
          obtain ⟨he, hf, -, hgl⟩ := HM.out.err
          obtain ⟨te, hte⟩ : ∃ te, te = s0.2 := ⟨_, rfl⟩
          rw [← hte] at he
          have HTE := Lib.hid hte
          clear hte
          by_cases hlt : k < m
          · have hlt' : (k : Int) < m := by omega
            by_cases h0 : te = 0
            · subst h0
              obtain ⟨i0, hi, hz0, hz1, hz2⟩ := info_parts info_dhue
              obtain ⟨m0, hm0⟩ : ∃ x, x = triV s0 0 := ⟨_, rfl⟩
              obtain ⟨m1, hm1⟩ : ∃ x, x = triV s0 1 := ⟨_, rfl⟩
              obtain ⟨m2, hm2⟩ : ∃ x, x = triV s0 2 := ⟨_, rfl⟩
              have HX := Lib.hid (show flatc 3 (itV triE triV 3 t2) (k + 1) = flatc 3 (itV triE triV 3 t2) k ++ [.int .i64 m0, .int .i64 m1, .int .i64 m2] by rw [stp_hue, ← HS0.out, ← hm0, ← hm1, ← hm2])
              have HXV := Lib.hid (And.intro hm0 (And.intro hm1 hm2))
              clear hm0 hm1 hm2
              go_upto_region 15 with fail
              refine Ol.way_drew (S := fun y => y.heap[q]? = some (.cells #[.int .i64 W, .int .i64 H, .slice al kl cl, .slice ad kd cd, .slice av kv cv, v, .slice none 0 0, .slice none 0 0] 29 (0, 0))) (stop := 7) (by kernel_rfl) (hrq) (fun hS0 => ?_)
              obtain ⟨z0, hz0_⟩ : ∃ y, wr.drew = y := ⟨_, rfl⟩
              have HA0 := Lib.hid (show Aw (Sq bb q g) y5 z0 by rw [← hz0_]; exact HA.out.trans (Aw.of (Below.refl _ _).drew))
              have HO0 := Lib.hid (show z0.ownsRow bb 75 3 v k (flatc 3 (itV triE triV 3 t2) k) by rw [← hz0_]; exact Ls.own_below HO.out (Below.refl _ _).drew)
              have HM0 := Lib.hid (show MAt g N ba bn bc l s0 z0 by rw [← hz0_]; exact mat_drew HM.out)
              have hs0 : wr.heap.size ≤ z0.heap.size := by rw [← hz0_]; exact Nat.le_refl _
              rw [hz0_] at hS0 ⊢
              clear hz0_
              refine Ol.way_plain (i := 0) (v := ?_) rfl (by kernel_rfl) (by kernel_rfl) (by kernel_rfl) (fun _ _ _ h => h) (by decide) (Or.inl ⟨by kernel_rfl, by (intro wz _; go_simp; try with_reducible rfl)⟩) (Ol.on hS0) ?_
              go_simp
              refine Ol.way_take (i := 1) (v := ?_) rfl (by kernel_rfl) (by kernel_rfl) (by kernel_rfl) (fun _ _ _ h => h) (by decide) (by kernel_rfl) (by kernel_rfl) (Or.inl ⟨by kernel_rfl, by (intro wz hSz; have cq_ := cell_of_row _ _ 5 _ _ _ hSz; simp at cq_; go_simp; try with_reducible rfl)⟩) hS0 ?_
              go_simp
              refine Ol.way_plain (i := 2) (v := ?_) rfl (by kernel_rfl) (by kernel_rfl) (by kernel_rfl) (fun _ _ _ h => h) (by decide) (Or.inl ⟨by kernel_rfl, by (intro wz _; go_simp; try with_reducible rfl)⟩) (Ol.on hS0) ?_
              go_simp
              refine Ol.way_ready (rs := [3]) (by kernel_rfl) (by simp) ?_
              refine Ol.Each.cons rfl (fun K hK => ?_) Ol.Each.nil
              go_simp
              go_wp2_with (go_at_call 47; refine (show Calls _ _ _ _ (fun e w' => e = .returned (.agg #[.int .i64 m0, .int .i64 m1, .int .i64 m2]) ∧ MAt g N ba bn bc l (triE s0) w' ∧ Aft g _ _ w') from by rw [HXV.out.1, HXV.out.2.1, HXV.out.2.2]; exact mvec_any g N ba bn bc l s0 _ HM0.out).mono ?_; rintro e z1 ⟨rfl, hm1, ha1⟩)
              have HA1 := Lib.hid (HA0.out.trans (aw_aft ha1))
              have HO1 := Lib.hid (own_aft HO0.out ha1 (by omega))
              have HM1 := Lib.hid hm1
              have hs1 := ha1.size
              have hq1 := (ha1.block q (lt_heap hS0) (lt_heap hS0) (by omega)).trans hS0
              refine Ol.keep hK _ _ (hq1) (fun hS1 => ?_)
              clear hK K
              refine Ol.way_ready (rs := [4]) (by kernel_rfl) (by simp) ?_
              refine Ol.Each.cons rfl (fun K hK => ?_) Ol.Each.nil
              go_simp
              have hb2 := Ve.below_n1 z1 (.cells #[.int .i64 m0, .int .i64 m1, .int .i64 m2] 75)
              have hN2 := heap_alloc_last z1 (.cells #[.int .i64 m0, .int .i64 m1, .int .i64 m2] 75)
              obtain ⟨z2, hz2_⟩ : ∃ y, z1.alloc (.cells #[.int .i64 m0, .int .i64 m1, .int .i64 m2] 75) = y := ⟨_, rfl⟩
              rw [hz2_] at hb2 hN2 ⊢
              clear hz2_
              have HA2 := Lib.hid (HA1.out.trans (Aw.of hb2))
              have HO2 := Lib.hid (Ls.own_below HO1.out hb2)
              have HM2 := Lib.hid (HM1.out.on hb2)
              have hs2 := hb2.size
              refine Ol.keep hK _ _ ((hb2.block _ (lt_heap hS1)).trans hS1) (fun hS2 => ?_)
              clear hK K
              refine Ol.way_ready (rs := [5]) (by kernel_rfl) (by simp) ?_
              refine Ol.Each.cons rfl (fun K hK => ?_) Ol.Each.nil
              refine step_append_lies _ rfl _ _ 22 rfl bb 75 i0 (.agg #[.int .i64 0, .int .i64 0, .int .i64 0]) 3 24 Try.underlying22 hi hz0 hz1 hz2 rfl (by decide) _ _ _ rfl HO2.out ⟨z1.heap.size, 0, none⟩ 1 1 [.int .i64 m0, .int .i64 m1, .int .i64 m2] rfl rfl ?c1 ?c2 (by omega) ?c3 ?c4 ?c5 _ rfl ?_
              case c1 => exact World.news_of_block hN2
              case c2 => intro u hu; simp at hu; rcases hu with rfl | rfl | rfl <;> rfl
              case c3 => unfold maxLen; omega
              case c4 => omega
              case c5 => omega
              intro g9 cg z3 hown hgrow hgk hlt2
              have hqo := fun r hr => (HO2.out.lt r hr).1
              have HA3 := Lib.hid (HA2.out.step hgrow (fun r hr => by have := hqo r hr; omega))
              rw [← HX.out] at hown
              have hqn : q ≠ g9 := by rcases hgk with h | h <;> first | omega | (have := hqo _ h; omega)
              have hq3 := (hgrow.block q (lt_heap hS2) (fun e => by have := hqo _ e.symm; omega)).trans hS2
              have hs3 := hgrow.size
              have HM3 := Lib.hid (mat_near HM2.out ((Below.refl (g + 1) _).grown hgrow (by omega) (fun r hr => by have := hqo r hr; omega)))
              refine Ol.keep hK _ _ (hq3) (fun hS3 => ?_)
              clear hK K
              refine Ol.way_plain (i := 6) (v := ?_) rfl (by kernel_rfl) (by kernel_rfl) (by kernel_rfl) (fun _ _ _ h => h) (by decide) (Or.inl ⟨by kernel_rfl, by (intro wz _; go_simp; try with_reducible rfl)⟩) (Ol.on hS3) ?_
              go_simp
              refine Ol.way_ready (rs := [7]) (by kernel_rfl) (by simp) ?_
              refine Ol.Each.cons rfl (fun K hK => ?_) Ol.Each.nil
              have p0 := cell_of_row _ _ 5 _ _ _ hq3
              simp at p0
              have fz : ∀ j, z3.frozen? ⟨q, j, none⟩ = false := fun j => by simp [World.frozen?, hq3]
              go_simp
              clear fz p0
              have hN : (z3.setCell ⟨q, 5, none⟩ (.slice (some ⟨g9, 0, none⟩) (k + 1) cg)).heap[q]? = some (.cells #[.int .i64 W, .int .i64 H, .slice al kl cl, .slice ad kd cd, .slice av kv cv, .slice (some ⟨g9, 0, none⟩) (k + 1) cg, .slice none 0 0, .slice none 0 0] 29 (0, 0)) := heap_setCell_same _ _ 5 _ _ _ hq3
              have HA4 := Lib.hid (HA3.out.set (b := q) (fun h => h.2.1 rfl) 5 (.slice (some ⟨g9, 0, none⟩) (k + 1) cg))
              have HM4 := Lib.hid (show MAt g N ba bn bc l (itS triE t2 (k + 1)) (z3.setCell ⟨q, 5, none⟩ (.slice (some ⟨g9, 0, none⟩) (k + 1) cg)) by show MAt g N ba bn bc l (triE (itS triE t2 k)) _; rw [← HS0.out]; exact HM3.out.setFar (by omega) _ _)
              have HO4 := Lib.hid (own_via (w' := (z3.setCell ⟨q, 5, none⟩ (.slice (some ⟨g9, 0, none⟩) (k + 1) cg))) hown (fun r hr => Below.heap_setCell _ _ _ _ (by simp [Value.ownBlock] at hr; show r ≠ q; omega)))
              refine Ol.past hK (by kernel_rfl) _ _ ?_
              clear hK K
              refine Ol.way_done (by kernel_rfl) ?_ _
              go_wp2
              go_roundw
              case rel => exact ⟨k + 1, _, by omega, by go_num, hN, HO4, HM4, HA4⟩
              case measure => simp [intOf]; omega
            · have d1 : (te == 0) = false := by simpa using h0
              have d2 := decide_eq_false h0
              have hkp : itS triE t2 m = s0 := by rw [it_stop tri_keep (k := k) (by rw [← HS0.out, ← HTE.out]; exact h0) m hk]; exact HS0.out.symm
              have hkn : (itS triE t2 m).2 ≠ 0 := by rw [hkp, ← HTE.out]; exact h0
              have HMx := Lib.hid (show MAt g N ba bn bc l (itS triE t2 m) wr by rw [hkp]; exact HM.out)
              have HKN := Lib.hid hkn
              clear hkp hkn
              go_wp2_with fail
              go_meet
              exact ⟨k, v, hk, fun h => absurd h HKN.out, hrq, HO, HMx, HA⟩
          · have HKK := Lib.hid (show k = m by omega)
            have hge : ¬ (k : Int) < m := by omega
            clear hlt
            have HMx := Lib.hid (show MAt g N ba bn bc l (itS triE t2 m) wr by rw [← HKK.out, ← HS0.out]; exact HM.out)
            go_wp2_with fail
            go_meet
            exact ⟨k, v, hk, fun _ => HKK.out, hrq, HO, HMx, HA⟩
      case rest =>
        obtain ⟨kb, vb, hkb, hokb, hr6_1, HOb, HPx, HAb⟩ := hcut
        obtain ⟨y6, hwc⟩ : ∃ y : World, y = wc := ⟨_, rfl⟩
        rw [← hwc] at hr6_1 HOb HPx HAb ⊢
        clear hwc
        have HOKb := Lib.hid hokb
        clear hokb
        obtain ⟨ab, cb, hvb⟩ := own_slice HOb.out
        subst hvb
        have hr6_0 := (HAb.out.block _ ⟨by have := lt_heap hr5_0; omega, by have := lt_heap hr5_0; omega, by have := lt_heap hr5_0; omega⟩ (lt_heap hr5_0)).trans hr5_0
        have hz6 := HAb.out.size
        have HU6 := Lib.hid (aft_of_sq HU5.out HAb.out (by omega) (by omega) (by omega) (by omega))
        have HP6 := HPx
        clear HPx
        have HLl6 := Lib.hid (Lq.aw HLl5.out HAb.out (by omega) (by omega))
        clear HLl5
        have HLd6 := Lib.hid (Lq.aw HLd5.out HAb.out (by omega) (by omega))
        clear HLd5
        have HLv6 := Lib.hid (Lq.aw HLv5.out HAb.out (by omega) (by omega))
        clear HLv5
        have HLb6 := Lib.hid (show Lq (g + 1) q 3 ab kb (itV triE triV 3 t2) y6 from ⟨by decide, rwp_own _ HOb.out (fun b h1 _ _ => ⟨by omega, by omega⟩)⟩)
        clear HOb HAb
        clear hr5_0 hr5_1 HU5 HP5
        rw [← E3.out] at HP6 HOKb
        have hqyx := lt_heap hr6_1
        have hwyx := HU6.out.size
        (try clear hlz); (try clear hz0); (try clear hb1); (try clear hs1); (try clear hl1_0); (try clear hz1); (try clear hb2); (try clear hz2); (try clear hb3); (try clear hs3); (try clear hz3); (try clear hl3_0); (try clear hqyd); (try clear hwyd); (try clear hbqd); (try clear hbgd); (try clear hbed); (try clear hbfd); (try clear hs0); (try clear hs2)
        (try clear hz4); (try clear hqyv); (try clear hwyv); (try clear hbqv); (try clear hbgv); (try clear hbev); (try clear hbfv); (try clear hz5); (try clear hqyb); (try clear hwyb); (try clear hbqb); (try clear hbgb); (try clear hbeb); (try clear hbfb); (try clear hz6)
        obtain ⟨bx, hb_x⟩ : ∃ b, b = y6.heap.size := ⟨_, rfl⟩
        have hbqx : q < bx := by rw [hb_x]; exact lt_heap hr6_1
        have hbgx : g < bx := by omega
        have hbex : bx ≤ y6.heap.size := by omega
        have hbfx : y6.heap.size ≤ bx := by omega
        clear hb_x
        go_upto_block 6 with fail
        go_cut [10] (fun i wx => ∃ (k : Nat) (v : Value), k ≤ m ∧ ((itS smlE t3 m).2 = 0 → k = m) ∧ wx.heap[q]? = some (.cells #[.int .i64 W, .int .i64 H, .slice al kl cl, .slice ad kd cd, .slice av kv cv, .slice ab kb cb, v, .slice none 0 0] 29 (0, 0)) ∧ Hid (wx.ownsRow bx 3 1 v k (flatc 1 (itV smlE smlV 1 t3) k)) ∧ Hid (MAt g N ba bn bc l (itS smlE t3 m) wx) ∧ Hid (Aw (Sq bx q g) y6 wx))
        case first =>
          go_upto_region 17 with fail
          go_loopw [10] (fun i wr => ∃ (k : Nat) (v : Value), k ≤ m ∧ i = .int .i64 k ∧ wr.heap[q]? = some (.cells #[.int .i64 W, .int .i64 H, .slice al kl cl, .slice ad kd cd, .slice av kv cv, .slice ab kb cb, v, .slice none 0 0] 29 (0, 0)) ∧ Hid (wr.ownsRow bx 3 1 v k (flatc 1 (itV smlE smlV 1 t3) k)) ∧ Hid (MAt g N ba bn bc l (itS smlE t3 k) wr) ∧ Hid (Aw (Sq bx q g) y6 wr)) (fun i _ => m - (intOf i).toNat)
          case atStart => exact ⟨0, _, by omega, rfl, hr6_1, Lib.hid (by simpa [flatc] using World.ownsRow_nil _ _ _ _), HP6, Lib.hid (Aw.refl _ _)⟩
          case round =>
            obtain ⟨k, v, hk, rfl, hrq, HO, HM, HA⟩ := hrel
            have hsz := HA.out.size
            obtain ⟨s0, hs0⟩ : ∃ s : St, s = itS smlE t3 k := ⟨_, rfl⟩
            rw [← hs0] at HM
            have HS0 := Lib.hid hs0
            clear hs0
            obtain ⟨he, hf, -, hgl⟩ := HM.out.err
            obtain ⟨te, hte⟩ : ∃ te, te = s0.2 := ⟨_, rfl⟩
            rw [← hte] at he
            have HTE := Lib.hid hte
            clear hte
            by_cases hlt : k < m
            · have hlt' : (k : Int) < m := by omega
              by_cases h0 : te = 0
              · subst h0
                obtain ⟨i0, hi, hz0, hz1, hz2⟩ := info_parts info_int
                obtain ⟨m0, hm0⟩ : ∃ x, x = smlV s0 0 := ⟨_, rfl⟩
                have HX := Lib.hid (show flatc 1 (itV smlE smlV 1 t3) (k + 1) = flatc 1 (itV smlE smlV 1 t3) k ++ [.int .i64 m0] by rw [stp_sml, ← HS0.out, ← hm0])
                have HXV := Lib.hid (And.intro hm0 True.intro)
                clear hm0
                go_upto_region 19 with fail
                refine Ol.way_drew (S := fun y => y.heap[q]? = some (.cells #[.int .i64 W, .int .i64 H, .slice al kl cl, .slice ad kd cd, .slice av kv cv, .slice ab kb cb, v, .slice none 0 0] 29 (0, 0))) (stop := 7) (by kernel_rfl) (hrq) (fun hS0 => ?_)
                obtain ⟨z0, hz0_⟩ : ∃ y, wr.drew = y := ⟨_, rfl⟩
                have HA0 := Lib.hid (show Aw (Sq bx q g) y6 z0 by rw [← hz0_]; exact HA.out.trans (Aw.of (Below.refl _ _).drew))
                have HO0 := Lib.hid (show z0.ownsRow bx 3 1 v k (flatc 1 (itV smlE smlV 1 t3) k) by rw [← hz0_]; exact Ls.own_below HO.out (Below.refl _ _).drew)
                have HM0 := Lib.hid (show MAt g N ba bn bc l s0 z0 by rw [← hz0_]; exact mat_drew HM.out)
                have hs0 : wr.heap.size ≤ z0.heap.size := by rw [← hz0_]; exact Nat.le_refl _
                rw [hz0_] at hS0 ⊢
                clear hz0_
                refine Ol.way_plain (i := 0) (v := ?_) rfl (by kernel_rfl) (by kernel_rfl) (by kernel_rfl) (fun _ _ _ h => h) (by decide) (Or.inl ⟨by kernel_rfl, by (intro wz _; go_simp; try with_reducible rfl)⟩) (Ol.on hS0) ?_
                go_simp
                refine Ol.way_take (i := 1) (v := ?_) rfl (by kernel_rfl) (by kernel_rfl) (by kernel_rfl) (fun _ _ _ h => h) (by decide) (by kernel_rfl) (by kernel_rfl) (Or.inl ⟨by kernel_rfl, by (intro wz hSz; have cq_ := cell_of_row _ _ 6 _ _ _ hSz; simp at cq_; go_simp; try with_reducible rfl)⟩) hS0 ?_
                go_simp
                refine Ol.way_plain (i := 2) (v := ?_) rfl (by kernel_rfl) (by kernel_rfl) (by kernel_rfl) (fun _ _ _ h => h) (by decide) (Or.inl ⟨by kernel_rfl, by (intro wz _; go_simp; try with_reducible rfl)⟩) (Ol.on hS0) ?_
                go_simp
                refine Ol.way_ready (rs := [3]) (by kernel_rfl) (by simp) ?_
                refine Ol.Each.cons rfl (fun K hK => ?_) Ol.Each.nil
                go_simp
                go_wp2_with (go_at_call 48; refine (show Calls _ _ _ _ (fun e w' => e = .returned (.int .i64 m0) ∧ MAt g N ba bn bc l (smlE s0) w' ∧ Aft g _ _ w') from by rw [HXV.out.1]; exact msmall_any g N ba bn bc l s0 _ HM0.out).mono ?_; rintro e z1 ⟨rfl, hm1, ha1⟩)
                have HA1 := Lib.hid (HA0.out.trans (aw_aft ha1))
                have HO1 := Lib.hid (own_aft HO0.out ha1 (by omega))
                have HM1 := Lib.hid hm1
                have hs1 := ha1.size
                have hq1 := (ha1.block q (lt_heap hS0) (lt_heap hS0) (by omega)).trans hS0
                refine Ol.keep hK _ _ (hq1) (fun hS1 => ?_)
                clear hK K
                refine Ol.way_ready (rs := [4]) (by kernel_rfl) (by simp) ?_
                refine Ol.Each.cons rfl (fun K hK => ?_) Ol.Each.nil
                go_simp
                have hb2 := Ve.below_n1 z1 (.cells #[.int .i64 m0] 3)
                have hN2 := heap_alloc_last z1 (.cells #[.int .i64 m0] 3)
                obtain ⟨z2, hz2_⟩ : ∃ y, z1.alloc (.cells #[.int .i64 m0] 3) = y := ⟨_, rfl⟩
                rw [hz2_] at hb2 hN2 ⊢
                clear hz2_
                have HA2 := Lib.hid (HA1.out.trans (Aw.of hb2))
                have HO2 := Lib.hid (Ls.own_below HO1.out hb2)
                have HM2 := Lib.hid (HM1.out.on hb2)
                have hs2 := hb2.size
                refine Ol.keep hK _ _ ((hb2.block _ (lt_heap hS1)).trans hS1) (fun hS2 => ?_)
                clear hK K
                refine Ol.way_ready (rs := [5]) (by kernel_rfl) (by simp) ?_
                refine Ol.Each.cons rfl (fun K hK => ?_) Ol.Each.nil
                refine step_append_lies _ rfl _ _ 27 rfl bx 3 i0 (.int .i64 0) 1 8 Try.underlying27 hi hz0 hz1 hz2 rfl (by decide) _ _ _ rfl HO2.out ⟨z1.heap.size, 0, none⟩ 1 1 [.int .i64 m0] rfl rfl ?c1 ?c2 (by omega) ?c3 ?c4 ?c5 _ rfl ?_
                case c1 => exact World.news_of_block hN2
                case c2 => intro u hu; simp at hu; rcases hu with rfl <;> rfl
                case c3 => unfold maxLen; omega
                case c4 => omega
                case c5 => omega
                intro g9 cg z3 hown hgrow hgk hlt2
                have hqo := fun r hr => (HO2.out.lt r hr).1
                have HA3 := Lib.hid (HA2.out.step hgrow (fun r hr => by have := hqo r hr; omega))
                rw [← HX.out] at hown
                have hqn : q ≠ g9 := by rcases hgk with h | h <;> first | omega | (have := hqo _ h; omega)
                have hq3 := (hgrow.block q (lt_heap hS2) (fun e => by have := hqo _ e.symm; omega)).trans hS2
                have hs3 := hgrow.size
                have HM3 := Lib.hid (mat_near HM2.out ((Below.refl (g + 1) _).grown hgrow (by omega) (fun r hr => by have := hqo r hr; omega)))
                refine Ol.keep hK _ _ (hq3) (fun hS3 => ?_)
                clear hK K
                refine Ol.way_plain (i := 6) (v := ?_) rfl (by kernel_rfl) (by kernel_rfl) (by kernel_rfl) (fun _ _ _ h => h) (by decide) (Or.inl ⟨by kernel_rfl, by (intro wz _; go_simp; try with_reducible rfl)⟩) (Ol.on hS3) ?_
                go_simp
                refine Ol.way_ready (rs := [7]) (by kernel_rfl) (by simp) ?_
                refine Ol.Each.cons rfl (fun K hK => ?_) Ol.Each.nil
                have p0 := cell_of_row _ _ 6 _ _ _ hq3
                simp at p0
                have fz : ∀ j, z3.frozen? ⟨q, j, none⟩ = false := fun j => by simp [World.frozen?, hq3]
                go_simp
                clear fz p0
                have hN : (z3.setCell ⟨q, 6, none⟩ (.slice (some ⟨g9, 0, none⟩) (k + 1) cg)).heap[q]? = some (.cells #[.int .i64 W, .int .i64 H, .slice al kl cl, .slice ad kd cd, .slice av kv cv, .slice ab kb cb, .slice (some ⟨g9, 0, none⟩) (k + 1) cg, .slice none 0 0] 29 (0, 0)) := heap_setCell_same _ _ 6 _ _ _ hq3
                have HA4 := Lib.hid (HA3.out.set (b := q) (fun h => h.2.1 rfl) 6 (.slice (some ⟨g9, 0, none⟩) (k + 1) cg))
                have HM4 := Lib.hid (show MAt g N ba bn bc l (itS smlE t3 (k + 1)) (z3.setCell ⟨q, 6, none⟩ (.slice (some ⟨g9, 0, none⟩) (k + 1) cg)) by show MAt g N ba bn bc l (smlE (itS smlE t3 k)) _; rw [← HS0.out]; exact HM3.out.setFar (by omega) _ _)
                have HO4 := Lib.hid (own_via (w' := (z3.setCell ⟨q, 6, none⟩ (.slice (some ⟨g9, 0, none⟩) (k + 1) cg))) hown (fun r hr => Below.heap_setCell _ _ _ _ (by simp [Value.ownBlock] at hr; show r ≠ q; omega)))
                refine Ol.past hK (by kernel_rfl) _ _ ?_
                clear hK K
                refine Ol.way_done (by kernel_rfl) ?_ _
                go_wp2
                go_roundw
                case rel => exact ⟨k + 1, _, by omega, by go_num, hN, HO4, HM4, HA4⟩
                case measure => simp [intOf]; omega
              · have d1 : (te == 0) = false := by simpa using h0
                have d2 := decide_eq_false h0
                have hkp : itS smlE t3 m = s0 := by rw [it_stop sml_keep (k := k) (by rw [← HS0.out, ← HTE.out]; exact h0) m hk]; exact HS0.out.symm
                have hkn : (itS smlE t3 m).2 ≠ 0 := by rw [hkp, ← HTE.out]; exact h0
                have HMx := Lib.hid (show MAt g N ba bn bc l (itS smlE t3 m) wr by rw [hkp]; exact HM.out)
                have HKN := Lib.hid hkn
                clear hkp hkn
                go_wp2_with fail
                go_meet
                exact ⟨k, v, hk, fun h => absurd h HKN.out, hrq, HO, HMx, HA⟩
            · have HKK := Lib.hid (show k = m by omega)
              have hge : ¬ (k : Int) < m := by omega
              clear hlt
              have HMx := Lib.hid (show MAt g N ba bn bc l (itS smlE t3 m) wr by rw [← HKK.out, ← HS0.out]; exact HM.out)
              go_wp2_with fail
              go_meet
              exact ⟨k, v, hk, fun _ => HKK.out, hrq, HO, HMx, HA⟩
        case rest =>
          obtain ⟨kx, vx, hkx, hokx, hr7_1, HOx, HPx, HAx⟩ := hcut
          obtain ⟨y7, hwc⟩ : ∃ y : World, y = wc := ⟨_, rfl⟩
          rw [← hwc] at hr7_1 HOx HPx HAx ⊢
          clear hwc
          have HOKx := Lib.hid hokx
          clear hokx
          obtain ⟨ax, cx, hvx⟩ := own_slice HOx.out
          subst hvx
          have hr7_0 := (HAx.out.block _ ⟨by have := lt_heap hr6_0; omega, by have := lt_heap hr6_0; omega, by have := lt_heap hr6_0; omega⟩ (lt_heap hr6_0)).trans hr6_0
          have hz7 := HAx.out.size
          have HU7 := Lib.hid (aft_of_sq HU6.out HAx.out (by omega) (by omega) (by omega) (by omega))
          have HP7 := HPx
          clear HPx
          have HLl7 := Lib.hid (Lq.aw HLl6.out HAx.out (by omega) (by omega))
          clear HLl6
          have HLd7 := Lib.hid (Lq.aw HLd6.out HAx.out (by omega) (by omega))
          clear HLd6
          have HLv7 := Lib.hid (Lq.aw HLv6.out HAx.out (by omega) (by omega))
          clear HLv6
          have HLb7 := Lib.hid (Lq.aw HLb6.out HAx.out (by omega) (by omega))
          clear HLb6
          have HLx7 := Lib.hid (show Lq (g + 1) q 1 ax kx (itV smlE smlV 1 t3) y7 from ⟨by decide, rwp_own _ HOx.out (fun b h1 _ _ => ⟨by omega, by omega⟩)⟩)
          clear HOx HAx
          clear hr6_0 hr6_1 HU6 HP6
          rw [← E4.out] at HP7 HOKx
          have hqyf := lt_heap hr7_1
          have hwyf := HU7.out.size
          (try clear hlz); (try clear hz0); (try clear hb1); (try clear hs1); (try clear hl1_0); (try clear hz1); (try clear hb2); (try clear hz2); (try clear hb3); (try clear hs3); (try clear hz3); (try clear hl3_0); (try clear hqyd); (try clear hwyd); (try clear hbqd); (try clear hbgd); (try clear hbed); (try clear hbfd); (try clear hs0); (try clear hs2)
          (try clear hz4); (try clear hqyv); (try clear hwyv); (try clear hbqv); (try clear hbgv); (try clear hbev); (try clear hbfv); (try clear hz5); (try clear hqyb); (try clear hwyb); (try clear hbqb); (try clear hbgb); (try clear hbeb); (try clear hbfb); (try clear hz6); (try clear hqyx); (try clear hwyx); (try clear hbqx); (try clear hbgx); (try clear hbex)
          (try clear hbfx); (try clear hz7)
          obtain ⟨bf, hb_f⟩ : ∃ b, b = y7.heap.size := ⟨_, rfl⟩
          have hbqf : q < bf := by rw [hb_f]; exact lt_heap hr7_1
          have hbgf : g < bf := by omega
          have hbef : bf ≤ y7.heap.size := by omega
          have hbff : y7.heap.size ≤ bf := by omega
          clear hb_f
          go_upto_block 8 with fail
          go_cut [11] (fun i wx => ∃ (k : Nat) (v : Value), k ≤ m ∧ ((itS smlE t4 m).2 = 0 → k = m) ∧ wx.heap[q]? = some (.cells #[.int .i64 W, .int .i64 H, .slice al kl cl, .slice ad kd cd, .slice av kv cv, .slice ab kb cb, .slice ax kx cx, v] 29 (0, 0)) ∧ Hid (wx.ownsRow bf 3 1 v k (flatc 1 (itV smlE smlV 1 t4) k)) ∧ Hid (MAt g N ba bn bc l (itS smlE t4 m) wx) ∧ Hid (Aw (Sq bf q g) y7 wx))
          case first =>
            go_upto_region 21 with fail
            go_loopw [11] (fun i wr => ∃ (k : Nat) (v : Value), k ≤ m ∧ i = .int .i64 k ∧ wr.heap[q]? = some (.cells #[.int .i64 W, .int .i64 H, .slice al kl cl, .slice ad kd cd, .slice av kv cv, .slice ab kb cb, .slice ax kx cx, v] 29 (0, 0)) ∧ Hid (wr.ownsRow bf 3 1 v k (flatc 1 (itV smlE smlV 1 t4) k)) ∧ Hid (MAt g N ba bn bc l (itS smlE t4 k) wr) ∧ Hid (Aw (Sq bf q g) y7 wr)) (fun i _ => m - (intOf i).toNat)
            case atStart => exact ⟨0, _, by omega, rfl, hr7_1, Lib.hid (by simpa [flatc] using World.ownsRow_nil _ _ _ _), HP7, Lib.hid (Aw.refl _ _)⟩
            case round =>
              obtain ⟨k, v, hk, rfl, hrq, HO, HM, HA⟩ := hrel
              have hsz := HA.out.size
              obtain ⟨s0, hs0⟩ : ∃ s : St, s = itS smlE t4 k := ⟨_, rfl⟩
              rw [← hs0] at HM
              have HS0 := Lib.hid hs0
              clear hs0
              obtain ⟨he, hf, -, hgl⟩ := HM.out.err
              obtain ⟨te, hte⟩ : ∃ te, te = s0.2 := ⟨_, rfl⟩
              rw [← hte] at he
              have HTE := Lib.hid hte
              clear hte
              by_cases hlt : k < m
              · have hlt' : (k : Int) < m := by omega
                by_cases h0 : te = 0
                · subst h0
                  obtain ⟨i0, hi, hz0, hz1, hz2⟩ := info_parts info_int
                  obtain ⟨m0, hm0⟩ : ∃ x, x = smlV s0 0 := ⟨_, rfl⟩
                  have HX := Lib.hid (show flatc 1 (itV smlE smlV 1 t4) (k + 1) = flatc 1 (itV smlE smlV 1 t4) k ++ [.int .i64 m0] by rw [stp_sml, ← HS0.out, ← hm0])
                  have HXV := Lib.hid (And.intro hm0 True.intro)
                  clear hm0
                  go_upto_region 23 with fail
                  refine Ol.way_drew (S := fun y => y.heap[q]? = some (.cells #[.int .i64 W, .int .i64 H, .slice al kl cl, .slice ad kd cd, .slice av kv cv, .slice ab kb cb, .slice ax kx cx, v] 29 (0, 0))) (stop := 7) (by kernel_rfl) (hrq) (fun hS0 => ?_)
                  obtain ⟨z0, hz0_⟩ : ∃ y, wr.drew = y := ⟨_, rfl⟩
                  have HA0 := Lib.hid (show Aw (Sq bf q g) y7 z0 by rw [← hz0_]; exact HA.out.trans (Aw.of (Below.refl _ _).drew))
                  have HO0 := Lib.hid (show z0.ownsRow bf 3 1 v k (flatc 1 (itV smlE smlV 1 t4) k) by rw [← hz0_]; exact Ls.own_below HO.out (Below.refl _ _).drew)
                  have HM0 := Lib.hid (show MAt g N ba bn bc l s0 z0 by rw [← hz0_]; exact mat_drew HM.out)
                  have hs0 : wr.heap.size ≤ z0.heap.size := by rw [← hz0_]; exact Nat.le_refl _
                  rw [hz0_] at hS0 ⊢
                  clear hz0_
                  refine Ol.way_plain (i := 0) (v := ?_) rfl (by kernel_rfl) (by kernel_rfl) (by kernel_rfl) (fun _ _ _ h => h) (by decide) (Or.inl ⟨by kernel_rfl, by (intro wz _; go_simp; try with_reducible rfl)⟩) (Ol.on hS0) ?_
                  go_simp
                  refine Ol.way_take (i := 1) (v := ?_) rfl (by kernel_rfl) (by kernel_rfl) (by kernel_rfl) (fun _ _ _ h => h) (by decide) (by kernel_rfl) (by kernel_rfl) (Or.inl ⟨by kernel_rfl, by (intro wz hSz; have cq_ := cell_of_row _ _ 7 _ _ _ hSz; simp at cq_; go_simp; try with_reducible rfl)⟩) hS0 ?_
                  go_simp
                  refine Ol.way_plain (i := 2) (v := ?_) rfl (by kernel_rfl) (by kernel_rfl) (by kernel_rfl) (fun _ _ _ h => h) (by decide) (Or.inl ⟨by kernel_rfl, by (intro wz _; go_simp; try with_reducible rfl)⟩) (Ol.on hS0) ?_
                  go_simp
                  refine Ol.way_ready (rs := [3]) (by kernel_rfl) (by simp) ?_
                  refine Ol.Each.cons rfl (fun K hK => ?_) Ol.Each.nil
                  go_simp
                  go_wp2_with (go_at_call 48; refine (show Calls _ _ _ _ (fun e w' => e = .returned (.int .i64 m0) ∧ MAt g N ba bn bc l (smlE s0) w' ∧ Aft g _ _ w') from by rw [HXV.out.1]; exact msmall_any g N ba bn bc l s0 _ HM0.out).mono ?_; rintro e z1 ⟨rfl, hm1, ha1⟩)
                  have HA1 := Lib.hid (HA0.out.trans (aw_aft ha1))
                  have HO1 := Lib.hid (own_aft HO0.out ha1 (by omega))
                  have HM1 := Lib.hid hm1
                  have hs1 := ha1.size
                  have hq1 := (ha1.block q (lt_heap hS0) (lt_heap hS0) (by omega)).trans hS0
                  refine Ol.keep hK _ _ (hq1) (fun hS1 => ?_)
                  clear hK K
                  refine Ol.way_ready (rs := [4]) (by kernel_rfl) (by simp) ?_
                  refine Ol.Each.cons rfl (fun K hK => ?_) Ol.Each.nil
                  go_simp
                  have hb2 := Ve.below_n1 z1 (.cells #[.int .i64 m0] 3)
                  have hN2 := heap_alloc_last z1 (.cells #[.int .i64 m0] 3)
                  obtain ⟨z2, hz2_⟩ : ∃ y, z1.alloc (.cells #[.int .i64 m0] 3) = y := ⟨_, rfl⟩
                  rw [hz2_] at hb2 hN2 ⊢
                  clear hz2_
                  have HA2 := Lib.hid (HA1.out.trans (Aw.of hb2))
                  have HO2 := Lib.hid (Ls.own_below HO1.out hb2)
                  have HM2 := Lib.hid (HM1.out.on hb2)
                  have hs2 := hb2.size
                  refine Ol.keep hK _ _ ((hb2.block _ (lt_heap hS1)).trans hS1) (fun hS2 => ?_)
                  clear hK K
                  refine Ol.way_ready (rs := [5]) (by kernel_rfl) (by simp) ?_
                  refine Ol.Each.cons rfl (fun K hK => ?_) Ol.Each.nil
                  refine step_append_lies _ rfl _ _ 27 rfl bf 3 i0 (.int .i64 0) 1 8 Try.underlying27 hi hz0 hz1 hz2 rfl (by decide) _ _ _ rfl HO2.out ⟨z1.heap.size, 0, none⟩ 1 1 [.int .i64 m0] rfl rfl ?c1 ?c2 (by omega) ?c3 ?c4 ?c5 _ rfl ?_
                  case c1 => exact World.news_of_block hN2
                  case c2 => intro u hu; simp at hu; rcases hu with rfl <;> rfl
                  case c3 => unfold maxLen; omega
                  case c4 => omega
                  case c5 => omega
                  intro g9 cg z3 hown hgrow hgk hlt2
                  have hqo := fun r hr => (HO2.out.lt r hr).1
                  have HA3 := Lib.hid (HA2.out.step hgrow (fun r hr => by have := hqo r hr; omega))
                  rw [← HX.out] at hown
                  have hqn : q ≠ g9 := by rcases hgk with h | h <;> first | omega | (have := hqo _ h; omega)
                  have hq3 := (hgrow.block q (lt_heap hS2) (fun e => by have := hqo _ e.symm; omega)).trans hS2
                  have hs3 := hgrow.size
                  have HM3 := Lib.hid (mat_near HM2.out ((Below.refl (g + 1) _).grown hgrow (by omega) (fun r hr => by have := hqo r hr; omega)))
                  refine Ol.keep hK _ _ (hq3) (fun hS3 => ?_)
                  clear hK K
                  refine Ol.way_plain (i := 6) (v := ?_) rfl (by kernel_rfl) (by kernel_rfl) (by kernel_rfl) (fun _ _ _ h => h) (by decide) (Or.inl ⟨by kernel_rfl, by (intro wz _; go_simp; try with_reducible rfl)⟩) (Ol.on hS3) ?_
                  go_simp
                  refine Ol.way_ready (rs := [7]) (by kernel_rfl) (by simp) ?_
                  refine Ol.Each.cons rfl (fun K hK => ?_) Ol.Each.nil
                  have p0 := cell_of_row _ _ 7 _ _ _ hq3
                  simp at p0
                  have fz : ∀ j, z3.frozen? ⟨q, j, none⟩ = false := fun j => by simp [World.frozen?, hq3]
                  go_simp
                  clear fz p0
                  have hN : (z3.setCell ⟨q, 7, none⟩ (.slice (some ⟨g9, 0, none⟩) (k + 1) cg)).heap[q]? = some (.cells #[.int .i64 W, .int .i64 H, .slice al kl cl, .slice ad kd cd, .slice av kv cv, .slice ab kb cb, .slice ax kx cx, .slice (some ⟨g9, 0, none⟩) (k + 1) cg] 29 (0, 0)) := heap_setCell_same _ _ 7 _ _ _ hq3
                  have HA4 := Lib.hid (HA3.out.set (b := q) (fun h => h.2.1 rfl) 7 (.slice (some ⟨g9, 0, none⟩) (k + 1) cg))
                  have HM4 := Lib.hid (show MAt g N ba bn bc l (itS smlE t4 (k + 1)) (z3.setCell ⟨q, 7, none⟩ (.slice (some ⟨g9, 0, none⟩) (k + 1) cg)) by show MAt g N ba bn bc l (smlE (itS smlE t4 k)) _; rw [← HS0.out]; exact HM3.out.setFar (by omega) _ _)
                  have HO4 := Lib.hid (own_via (w' := (z3.setCell ⟨q, 7, none⟩ (.slice (some ⟨g9, 0, none⟩) (k + 1) cg))) hown (fun r hr => Below.heap_setCell _ _ _ _ (by simp [Value.ownBlock] at hr; show r ≠ q; omega)))
                  refine Ol.past hK (by kernel_rfl) _ _ ?_
                  clear hK K
                  refine Ol.way_done (by kernel_rfl) ?_ _
                  go_wp2
                  go_roundw
                  case rel => exact ⟨k + 1, _, by omega, by go_num, hN, HO4, HM4, HA4⟩
                  case measure => simp [intOf]; omega
                · have d1 : (te == 0) = false := by simpa using h0
                  have d2 := decide_eq_false h0
                  have hkp : itS smlE t4 m = s0 := by rw [it_stop sml_keep (k := k) (by rw [← HS0.out, ← HTE.out]; exact h0) m hk]; exact HS0.out.symm
                  have hkn : (itS smlE t4 m).2 ≠ 0 := by rw [hkp, ← HTE.out]; exact h0
                  have HMx := Lib.hid (show MAt g N ba bn bc l (itS smlE t4 m) wr by rw [hkp]; exact HM.out)
                  have HKN := Lib.hid hkn
                  clear hkp hkn
                  go_wp2_with fail
                  go_meet
                  exact ⟨k, v, hk, fun h => absurd h HKN.out, hrq, HO, HMx, HA⟩
              · have HKK := Lib.hid (show k = m by omega)
                have hge : ¬ (k : Int) < m := by omega
                clear hlt
                have HMx := Lib.hid (show MAt g N ba bn bc l (itS smlE t4 m) wr by rw [← HKK.out, ← HS0.out]; exact HM.out)
                go_wp2_with fail
                go_meet
                exact ⟨k, v, hk, fun _ => HKK.out, hrq, HO, HMx, HA⟩
          case rest =>
            obtain ⟨kf, vf, hkf, hokf, hr8_1, HOf, HPx, HAf⟩ := hcut
            obtain ⟨y8, hwc⟩ : ∃ y : World, y = wc := ⟨_, rfl⟩
            rw [← hwc] at hr8_1 HOf HPx HAf ⊢
            clear hwc
            have HOKf := Lib.hid hokf
            clear hokf
            obtain ⟨af, cf, hvf⟩ := own_slice HOf.out
            subst hvf
            have hr8_0 := (HAf.out.block _ ⟨by have := lt_heap hr7_0; omega, by have := lt_heap hr7_0; omega, by have := lt_heap hr7_0; omega⟩ (lt_heap hr7_0)).trans hr7_0
            have hz8 := HAf.out.size
            have HU8 := Lib.hid (aft_of_sq HU7.out HAf.out (by omega) (by omega) (by omega) (by omega))
            have HP8 := HPx
            clear HPx
            have HLl8 := Lib.hid (Lq.aw HLl7.out HAf.out (by omega) (by omega))
            clear HLl7
            have HLd8 := Lib.hid (Lq.aw HLd7.out HAf.out (by omega) (by omega))
            clear HLd7
            have HLv8 := Lib.hid (Lq.aw HLv7.out HAf.out (by omega) (by omega))
            clear HLv7
            have HLb8 := Lib.hid (Lq.aw HLb7.out HAf.out (by omega) (by omega))
            clear HLb7
            have HLx8 := Lib.hid (Lq.aw HLx7.out HAf.out (by omega) (by omega))
            clear HLx7
            have HLf8 := Lib.hid (show Lq (g + 1) q 1 af kf (itV smlE smlV 1 t4) y8 from ⟨by decide, rwp_own _ HOf.out (fun b h1 _ _ => ⟨by omega, by omega⟩)⟩)
            clear HOf HAf
            clear hr7_0 hr7_1 HU7 HP7
            rw [← E5.out] at HP8 HOKf
            have c1_0 := cell_of_row _ _ 0 _ _ _ hr8_1
            have c1_1 := cell_of_row _ _ 1 _ _ _ hr8_1
            have c1_2 := cell_of_row _ _ 2 _ _ _ hr8_1
            have c1_3 := cell_of_row _ _ 3 _ _ _ hr8_1
            have c1_4 := cell_of_row _ _ 4 _ _ _ hr8_1
            have c1_5 := cell_of_row _ _ 5 _ _ _ hr8_1
            have c1_6 := cell_of_row _ _ 6 _ _ _ hr8_1
            have c1_7 := cell_of_row _ _ 7 _ _ _ hr8_1
            simp at c1_0 c1_1 c1_2 c1_3 c1_4 c1_5 c1_6 c1_7
            go_wp2_with fail
            refine ((show Calls _ _ _ _ (fun e w' => e = .returned (.int .i64 er) ∧ MAt g N ba bn bc l (endS t5) w' ∧ Aft g _ _ w') from by rw [HE.out]; exact mend_any g N ba bn bc l t5 _ HP8.out)).mono ?_
            rintro e y9 ⟨rfl, hp9, hb9⟩
            have HP9 := Lib.hid hp9
            have hz9 := hb9.size
            clear c1_0 c1_1 c1_2 c1_3 c1_4 c1_5 c1_6 c1_7
            have hr9_0 := (hb9.block _ (lt_heap hr8_0) (lt_heap hr8_0) (by omega)).trans hr8_0
            have hr9_1 := (hb9.block _ (lt_heap hr8_1) (lt_heap hr8_1) (by omega)).trans hr8_1
            have HU9 := Lib.hid (HU8.out.trans (hb9.mono HU8.out.size))
            have HLl9 := Lib.hid (HLl8.out.aft hb9 (by omega))
            clear HLl8
            have HLd9 := Lib.hid (HLd8.out.aft hb9 (by omega))
            clear HLd8
            have HLv9 := Lib.hid (HLv8.out.aft hb9 (by omega))
            clear HLv8
            have HLb9 := Lib.hid (HLb8.out.aft hb9 (by omega))
            clear HLb8
            have HLx9 := Lib.hid (HLx8.out.aft hb9 (by omega))
            clear HLx8
            have HLf9 := Lib.hid (HLf8.out.aft hb9 (by omega))
            clear HLf8
            clear hr8_0 hr8_1 HU8
            by_cases h0 : er = 0
            · have HER := Lib.hid (show (endS t5).2 = 0 by rw [← HE.out]; exact h0)
              subst h0
              have z5 := end_none (t := t5) HER.out
              have z4 : t4.2 = 0 := Classical.byContradiction fun hh => by
                have h5 := E5.out
                rw [it_stay sml_keep hh] at h5
                rw [h5] at z5
                exact hh z5
              have z3 : t3.2 = 0 := Classical.byContradiction fun hh => by
                have h5 := E4.out
                rw [it_stay sml_keep hh] at h5
                rw [h5] at z4
                exact hh z4
              have z2 : t2.2 = 0 := Classical.byContradiction fun hh => by
                have h5 := E3.out
                rw [it_stay tri_keep hh] at h5
                rw [h5] at z3
                exact hh z3
              have z1 : t1.2 = 0 := Classical.byContradiction fun hh => by
                have h5 := E2.out
                rw [it_stay tri_keep hh] at h5
                rw [h5] at z2
                exact hh z2
              have z0 : t0.2 = 0 := Classical.byContradiction fun hh => by
                have h5 := E1.out
                rw [it_stay one_keep hh] at h5
                rw [h5] at z1
                exact hh z1
              have hkl := (HKL.out z0).symm
              have hmm := (HMN.out z0).symm
              subst hkl
              subst hmm
              have hkd_ := (HOKd.out z1).symm
              subst hkd_
              have hkv_ := (HOKv.out z2).symm
              subst hkv_
              have hkb_ := (HOKb.out z3).symm
              subst hkb_
              have hkx_ := (HOKx.out z4).symm
              subst hkx_
              have hkf_ := (HOKf.out z5).symm
              subst hkf_
              clear z0 z1 z2 z3 z4 z5
              have c1_0 := cell_of_row _ _ 0 _ _ _ hr9_1
              have c1_1 := cell_of_row _ _ 1 _ _ _ hr9_1
              have c1_2 := cell_of_row _ _ 2 _ _ _ hr9_1
              have c1_3 := cell_of_row _ _ 3 _ _ _ hr9_1
              have c1_4 := cell_of_row _ _ 4 _ _ _ hr9_1
              have c1_5 := cell_of_row _ _ 5 _ _ _ hr9_1
              have c1_6 := cell_of_row _ _ 6 _ _ _ hr9_1
              have c1_7 := cell_of_row _ _ 7 _ _ _ hr9_1
              simp at c1_0 c1_1 c1_2 c1_3 c1_4 c1_5 c1_6 c1_7
              go_wp2_with fail
              refine (dright_any (⟨W, H, n, n, n, n, n, n, M0, itV oneE oneV 1 t0, itV triE triV 3 t1, itV triE triV 3 t2, itV smlE smlV 1 t3, itV smlE smlV 1 t4⟩ : Flm) (⟨al, cl, ad, cd, av, cv, ab, cb, ax, cx, af, cf⟩ : Pl) _ ⟨HLl9.out.2.rw (by decide), HLd9.out.2.rw (by decide), HLv9.out.2.rw (by decide), HLb9.out.2.rw (by decide), HLx9.out.2.rw (by decide), HLf9.out.2.rw (by decide)⟩).mono ?_
              rintro e y10 ⟨rfl, hbb⟩
              have hp10 := HP9.out.new hbb
              have hb10 := Aft.of (g := g) (base := y9.heap.size) hbb
              clear hbb
              have HP10 := Lib.hid hp10
              have hz10 := hb10.size
              clear c1_0 c1_1 c1_2 c1_3 c1_4 c1_5 c1_6 c1_7
              have hr10_0 := (hb10.block _ (lt_heap hr9_0) (lt_heap hr9_0) (by omega)).trans hr9_0
              have hr10_1 := (hb10.block _ (lt_heap hr9_1) (lt_heap hr9_1) (by omega)).trans hr9_1
              have HU10 := Lib.hid (HU9.out.trans (hb10.mono HU9.out.size))
              have HLl10 := Lib.hid (HLl9.out.aft hb10 (by omega))
              clear HLl9
              have HLd10 := Lib.hid (HLd9.out.aft hb10 (by omega))
              clear HLd9
              have HLv10 := Lib.hid (HLv9.out.aft hb10 (by omega))
              clear HLv9
              have HLb10 := Lib.hid (HLb9.out.aft hb10 (by omega))
              clear HLb9
              have HLx10 := Lib.hid (HLx9.out.aft hb10 (by omega))
              clear HLx9
              have HLf10 := Lib.hid (HLf9.out.aft hb10 (by omega))
              clear HLf9
              clear hr9_0 hr9_1 HU9
              by_cases hok : okF (⟨W, H, n, n, n, n, n, n, M0, itV oneE oneV 1 t0, itV triE triV 3 t1, itV triE triV 3 t2, itV smlE smlV 1 t3, itV smlE smlV 1 t4⟩ : Flm)
              · rw [decide_eq_true hok]
                have HOKF := Lib.hid hok
                clear hok
                have c1_0 := cell_of_row _ _ 0 _ _ _ hr10_1
                have c1_1 := cell_of_row _ _ 1 _ _ _ hr10_1
                have c1_2 := cell_of_row _ _ 2 _ _ _ hr10_1
                have c1_3 := cell_of_row _ _ 3 _ _ _ hr10_1
                have c1_4 := cell_of_row _ _ 4 _ _ _ hr10_1
                have c1_5 := cell_of_row _ _ 5 _ _ _ hr10_1
                have c1_6 := cell_of_row _ _ 6 _ _ _ hr10_1
                have c1_7 := cell_of_row _ _ 7 _ _ _ hr10_1
                simp at c1_0 c1_1 c1_2 c1_3 c1_4 c1_5 c1_6 c1_7
                go_upto_region 29 with fail
                have hHr := Lib.hid hr10_0
                have hHi := Lib.hid (show (Try.prog.info? 29).map (·.size) = some (#[.int .i64 W, .int .i64 H, .slice al n cl, .slice ad n cd, .slice av n cv, .slice ab n cb, .slice ax n cx, .slice af n cf] : Array Value).size by kernel_rfl)
                have hHz := Lib.hid (show (#[.int .i64 0, .int .i64 0, .slice none 0 0, .slice none 0 0, .slice none 0 0, .slice none 0 0, .slice none 0 0, .slice none 0 0] : Array Value).size = (#[.int .i64 W, .int .i64 H, .slice al n cl, .slice ad n cd, .slice av n cv, .slice ab n cb, .slice ax n cx, .slice af n cf] : Array Value).size from rfl)
                have hHo := Lib.hid (show (#[.int .i64 W, .int .i64 H, .slice al n cl, .slice ad n cd, .slice av n cv, .slice ab n cb, .slice ax n cx, .slice af n cf] : Array Value).all (·.oneCell') = true by simp [Value.oneCell'])
                go_wp2_with (first | (refine Au.wpList_store_row rfl 29 (.tmp 2) (.tmp 134) rfl y10 #[.int .i64 0, .int .i64 0, .slice none 0 0, .slice none 0 0, .slice none 0 0, .slice none 0 0, .slice none 0 0, .slice none 0 0] #[.int .i64 W, .int .i64 H, .slice al n cl, .slice ad n cd, .slice av n cv, .slice ab n cb, .slice ax n cx, .slice af n cf] (w.heap.size) 29 hHr.out rfl rfl hHi.out hHz.out hHo.out ?_))
                clear c1_0 c1_1 c1_2 c1_3 c1_4 c1_5 c1_6 c1_7
                clear hHr hHi hHz hHo
                have hN := setRow_heap _ (w.heap.size) _ #[.int .i64 W, .int .i64 H, .slice al n cl, .slice ad n cd, .slice av n cv, .slice ab n cb, .slice ax n cx, .slice af n cf] _ _ hr10_0
                have hsz := HU10.out.size
                have HUx := aft_setRow (k := w.heap.size) HU10.out (by omega) (by omega) #[.int .i64 W, .int .i64 H, .slice al n cl, .slice ad n cd, .slice av n cv, .slice ab n cb, .slice ax n cx, .slice af n cf]
                have hO : ∀ kk, kk ≠ w.heap.size → (y10.setRow (w.heap.size) #[.int .i64 W, .int .i64 H, .slice al n cl, .slice ad n cd, .slice av n cv, .slice ab n cb, .slice ax n cx, .slice af n cf]).heap[kk]? = y10.heap[kk]? := fun kk hk => setRow_other _ _ _ _ hk
                obtain ⟨y11, hy11⟩ : ∃ y, y10.setRow (w.heap.size) #[.int .i64 W, .int .i64 H, .slice al n cl, .slice ad n cd, .slice av n cv, .slice ab n cb, .slice ax n cx, .slice af n cf] = y := ⟨_, rfl⟩
                rw [hy11] at hN HUx hO ⊢
                clear hy11 hsz
                have HU11 := Lib.hid HUx
                clear HUx
                have hz11 := HU11.out.size
                have hr11_0 := hN
                have hr11_1 := (hO _ (by omega)).trans hr10_1
                have YHLl := Lib.hid ((Lq.heap (w' := y11) HLl10.out (fun k h => hO k (by omega))).low (b2 := w.heap.size) (by omega))
                have YHLd := Lib.hid ((Lq.heap (w' := y11) HLd10.out (fun k h => hO k (by omega))).low (b2 := w.heap.size) (by omega))
                have YHLv := Lib.hid ((Lq.heap (w' := y11) HLv10.out (fun k h => hO k (by omega))).low (b2 := w.heap.size) (by omega))
                have YHLb := Lib.hid ((Lq.heap (w' := y11) HLb10.out (fun k h => hO k (by omega))).low (b2 := w.heap.size) (by omega))
                have YHLx := Lib.hid ((Lq.heap (w' := y11) HLx10.out (fun k h => hO k (by omega))).low (b2 := w.heap.size) (by omega))
                have YHLf := Lib.hid ((Lq.heap (w' := y11) HLf10.out (fun k h => hO k (by omega))).low (b2 := w.heap.size) (by omega))
                clear hN hO
                clear hr10_0 hr10_1 HU10
                go_wp2
                skip
                exact bodyPost_ret (v := .tuple #[.agg #[.int .i64 W, .int .i64 H, .slice al n cl, .slice ad n cd, .slice av n cv, .slice ab n cb, .slice ax n cx, .slice af n cf], .int .i64 0]) (results_row2 (t := 29) Try.results23 rfl rfl hr11_0 Try.underlying29 rfl (by kernel_rfl)) rfl ⟨.inl ⟨HOKF.out, (⟨al, cl, ad, cd, av, cv, ab, cb, ax, cx, af, cf⟩ : Pl), rfl, ⟨YHLl.out, YHLd.out, YHLv.out, YHLb.out, YHLx.out, YHLf.out⟩⟩, HU11.out.below (by omega) (Nat.le_refl _) (Nat.le_refl _)⟩
              · rw [decide_eq_false hok]
                have HOKF := Lib.hid hok
                clear hok
                go_upto_region 28 with fail
                have hHr := Lib.hid hr10_0
                have hHi := Lib.hid (show (Try.prog.info? 29).map (·.size) = some (#[.int .i64 0, .int .i64 0, .slice none 0 0, .slice none 0 0, .slice none 0 0, .slice none 0 0, .slice none 0 0, .slice none 0 0] : Array Value).size by kernel_rfl)
                have hHz := Lib.hid (show (#[.int .i64 0, .int .i64 0, .slice none 0 0, .slice none 0 0, .slice none 0 0, .slice none 0 0, .slice none 0 0, .slice none 0 0] : Array Value).size = (#[.int .i64 0, .int .i64 0, .slice none 0 0, .slice none 0 0, .slice none 0 0, .slice none 0 0, .slice none 0 0, .slice none 0 0] : Array Value).size from rfl)
                have hHo := Lib.hid (show (#[.int .i64 0, .int .i64 0, .slice none 0 0, .slice none 0 0, .slice none 0 0, .slice none 0 0, .slice none 0 0, .slice none 0 0] : Array Value).all (·.oneCell') = true by simp [Value.oneCell'])
                go_wp2_with (first | (refine Au.wpList_store_row rfl 29 (.tmp 2) (.tmp 132) rfl y10 #[.int .i64 0, .int .i64 0, .slice none 0 0, .slice none 0 0, .slice none 0 0, .slice none 0 0, .slice none 0 0, .slice none 0 0] #[.int .i64 0, .int .i64 0, .slice none 0 0, .slice none 0 0, .slice none 0 0, .slice none 0 0, .slice none 0 0, .slice none 0 0] (w.heap.size) 29 hHr.out rfl rfl hHi.out hHz.out hHo.out ?_))
                clear hHr hHi hHz hHo
                have hN := setRow_heap _ (w.heap.size) _ #[.int .i64 0, .int .i64 0, .slice none 0 0, .slice none 0 0, .slice none 0 0, .slice none 0 0, .slice none 0 0, .slice none 0 0] _ _ hr10_0
                have hsz := HU10.out.size
                have HUx := aft_setRow (k := w.heap.size) HU10.out (by omega) (by omega) #[.int .i64 0, .int .i64 0, .slice none 0 0, .slice none 0 0, .slice none 0 0, .slice none 0 0, .slice none 0 0, .slice none 0 0]
                have hO : ∀ kk, kk ≠ w.heap.size → (y10.setRow (w.heap.size) #[.int .i64 0, .int .i64 0, .slice none 0 0, .slice none 0 0, .slice none 0 0, .slice none 0 0, .slice none 0 0, .slice none 0 0]).heap[kk]? = y10.heap[kk]? := fun kk hk => setRow_other _ _ _ _ hk
                obtain ⟨y11, hy11⟩ : ∃ y, y10.setRow (w.heap.size) #[.int .i64 0, .int .i64 0, .slice none 0 0, .slice none 0 0, .slice none 0 0, .slice none 0 0, .slice none 0 0, .slice none 0 0] = y := ⟨_, rfl⟩
                rw [hy11] at hN HUx hO ⊢
                clear hy11 hsz
                have HU11 := Lib.hid HUx
                clear HUx
                have hz11 := HU11.out.size
                have hr11_0 := hN
                have hr11_1 := (hO _ (by omega)).trans hr10_1
                clear hN hO
                clear hr10_0 hr10_1 HU10
                go_wp2
                skip
                exact bodyPost_ret (v := .tuple #[.agg #[.int .i64 0, .int .i64 0, .slice none 0 0, .slice none 0 0, .slice none 0 0, .slice none 0 0, .slice none 0 0, .slice none 0 0], .int .i64 10]) (results_row2 (t := 29) Try.results23 rfl rfl hr11_0 Try.underlying29 rfl (by kernel_rfl)) rfl ⟨.inr ⟨HOKF.out, rfl⟩, HU11.out.below (by omega) (Nat.le_refl _) (Nat.le_refl _)⟩
            · have HER := Lib.hid h0
              have d1 : (er != 0) = true := by simpa using h0
              have d2 : (er == 0) = false := by simpa using h0
              clear h0
              go_upto_region 28 with fail
              have hHr := Lib.hid hr9_0
              have hHi := Lib.hid (show (Try.prog.info? 29).map (·.size) = some (#[.int .i64 0, .int .i64 0, .slice none 0 0, .slice none 0 0, .slice none 0 0, .slice none 0 0, .slice none 0 0, .slice none 0 0] : Array Value).size by kernel_rfl)
              have hHz := Lib.hid (show (#[.int .i64 0, .int .i64 0, .slice none 0 0, .slice none 0 0, .slice none 0 0, .slice none 0 0, .slice none 0 0, .slice none 0 0] : Array Value).size = (#[.int .i64 0, .int .i64 0, .slice none 0 0, .slice none 0 0, .slice none 0 0, .slice none 0 0, .slice none 0 0, .slice none 0 0] : Array Value).size from rfl)
              have hHo := Lib.hid (show (#[.int .i64 0, .int .i64 0, .slice none 0 0, .slice none 0 0, .slice none 0 0, .slice none 0 0, .slice none 0 0, .slice none 0 0] : Array Value).all (·.oneCell') = true by simp [Value.oneCell'])
              go_wp2_with (first | (refine Au.wpList_store_row rfl 29 (.tmp 2) (.tmp 132) rfl y9 #[.int .i64 0, .int .i64 0, .slice none 0 0, .slice none 0 0, .slice none 0 0, .slice none 0 0, .slice none 0 0, .slice none 0 0] #[.int .i64 0, .int .i64 0, .slice none 0 0, .slice none 0 0, .slice none 0 0, .slice none 0 0, .slice none 0 0, .slice none 0 0] (w.heap.size) 29 hHr.out rfl rfl hHi.out hHz.out hHo.out ?_))
              clear hHr hHi hHz hHo
              have hN := setRow_heap _ (w.heap.size) _ #[.int .i64 0, .int .i64 0, .slice none 0 0, .slice none 0 0, .slice none 0 0, .slice none 0 0, .slice none 0 0, .slice none 0 0] _ _ hr9_0
              have hsz := HU9.out.size
              have HUx := aft_setRow (k := w.heap.size) HU9.out (by omega) (by omega) #[.int .i64 0, .int .i64 0, .slice none 0 0, .slice none 0 0, .slice none 0 0, .slice none 0 0, .slice none 0 0, .slice none 0 0]
              have hO : ∀ kk, kk ≠ w.heap.size → (y9.setRow (w.heap.size) #[.int .i64 0, .int .i64 0, .slice none 0 0, .slice none 0 0, .slice none 0 0, .slice none 0 0, .slice none 0 0, .slice none 0 0]).heap[kk]? = y9.heap[kk]? := fun kk hk => setRow_other _ _ _ _ hk
              obtain ⟨y10, hy10⟩ : ∃ y, y9.setRow (w.heap.size) #[.int .i64 0, .int .i64 0, .slice none 0 0, .slice none 0 0, .slice none 0 0, .slice none 0 0, .slice none 0 0, .slice none 0 0] = y := ⟨_, rfl⟩
              rw [hy10] at hN HUx hO ⊢
              clear hy10 hsz
              have HU10 := Lib.hid HUx
              clear HUx
              have hz10 := HU10.out.size
              have hr10_0 := hN
              have hr10_1 := (hO _ (by omega)).trans hr9_1
              clear hN hO
              clear hr9_0 hr9_1 HU9
              go_wp2
              skip
              exact bodyPost_ret (v := .tuple #[.agg #[.int .i64 0, .int .i64 0, .slice none 0 0, .slice none 0 0, .slice none 0 0, .slice none 0 0, .slice none 0 0, .slice none 0 0], .int .i64 er]) (results_row2 (t := 29) Try.results23 rfl rfl hr10_0 Try.underlying29 rfl (by kernel_rfl)) rfl ⟨.inr (.inr ⟨HER.out, rfl⟩), HU10.out.below (by omega) (Nat.le_refl _) (Nat.le_refl _)⟩

end Go.Proofs.Ytgkfoiekminfmaa.Fm
