/- Films, sheets, read off bytes, by the document: take. -/
import Derived.Test.YtgkfoiekminfmaaC35
import Derived.Test.YtgkfoiekminfmaaC24
import Derived.Test.YtgkfoiekminfmaaC42
import Derived.Deep.CutBlock
namespace Go.Proofs.Ytgkfoiekminfmaa.Re
open Go.RowKit Go.Proofs.Ytgkfoiekminfmaa Go.Proofs.Ytgkfoiekminfmaa.Rp

theorem MAt.set {g N : Nat} {a : Option Addr} {n c : Nat} {lb : List UInt8} {s : St} {w : World} (h : MAt g N a n c lb s w) {b : Nat} (hb : g < b) (i : Nat) (u : Value) : MAt g N a n c lb s (w.setCell ⟨b, i, none⟩ u) := h.setFar hb i u

theorem mat_near {g N : Nat} {a : Option Addr} {n c : Nat} {lb : List UInt8} {s : St} {w w' : World} (h : MAt g N a n c lb s w) (hb : Below (g + 1) w w') : MAt g N a n c lb s w' := by
  obtain ⟨h1, h2, h3, h4, h5, h6, h7, h8, p, h9, h10, h11⟩ := h
  refine ⟨h1, Nat.lt_of_lt_of_le h2 hb.size, fun j => (hb.frozen (p := ⟨g, j, none⟩) (Nat.lt_succ_self g)).trans (h3 j), (hb.cell (p := ⟨g, 0, none⟩) (Nat.lt_succ_self g)).trans h4, (hb.cell (p := ⟨g, 2, none⟩) (Nat.lt_succ_self g)).trans h5, ?_, h7, h8, p, h9, h10, (hb.cell (p := ⟨g, 1, none⟩) (Nat.lt_succ_self g)).trans h11⟩
  rcases h6 with h | ⟨ad, cap, h, hc⟩
  · exact .inl h
  · cases h
    refine .inr ⟨ad, c, rfl, fun j v hv => ?_⟩
    have hne := h8 ad rfl (fun e => by subst e; simp [vals] at hv)
    rw [hb.cell (p := ad.add j) (by rw [ad_block]; omega)]
    exact hc j v hv

theorem mat_drew {g N : Nat} {a : Option Addr} {n c : Nat} {lb : List UInt8} {s : St} {w : World} (h : MAt g N a n c lb s w) : MAt g N a n c lb s w.drew := mat_near h (Below.refl _ _).drew

theorem mat_setRow {g N : Nat} {a : Option Addr} {n c : Nat} {lb : List UInt8} {s : St} {w : World} {k : Nat} (h : MAt g N a n c lb s w) (hk : g < k) (R : Array Value) : MAt g N a n c lb s (w.setRow k R) :=
  mat_near h (below_setRow (g := k) (Below.refl (g + 1) w) (by omega) R)
end Go.Proofs.Ytgkfoiekminfmaa.Re
namespace Go.Proofs.Ytgkfoiekminfmaa.Fm
open Go Go.RowKit Go.Proofs.Ytgkfoiekminfmaa Go.Proofs.Ytgkfoiekminfmaa.Rp Go.Proofs.Ytgkfoiekminfmaa.Re Go.Proofs.Ytgkfoiekminfmaa.Au
set_option linter.unusedVariables false
set_option linter.unusedSimpArgs false

/-! ### behind an error nothing is read -/
theorem num_keep {s : St} (h : s.2 ≠ 0) (n : Nat) : numS s n = (0, s) := by
  obtain ⟨l, e⟩ := s
  unfold numS; rw [takeS_err n h]; rfl

theorem fix_keep {s : St} (h : s.2 ≠ 0) : fixS s = (0, s) := by
  unfold fixS; rw [num_keep h]; rfl

theorem one_keep {s : St} (h : s.2 ≠ 0) : oneE s = s := by unfold oneE; rw [fix_keep h]

theorem sml_keep {s : St} (h : s.2 ≠ 0) : smlE s = s := by unfold smlE; rw [num_keep h]

theorem tri_keep {s : St} (h : s.2 ≠ 0) : triE s = s := by
  have e1 : fixK s 1 = s := by show (fixS s).2 = s; rw [fix_keep h]
  have e2 : fixK s 2 = s := by show (fixS (fixK s 1)).2 = s; rw [e1, fix_keep h]
  show fixK s 3 = s
  show (fixS (fixK s 2)).2 = s
  rw [e2, fix_keep h]

theorem it_stay {e : St → St} (he : ∀ {s : St}, s.2 ≠ 0 → e s = s) {s : St} (h : s.2 ≠ 0) (n : Nat) : itS e s n = s := by
  induction n with
  | zero => rfl
  | succ n ih => show e (itS e s n) = s; rw [ih, he h]

theorem it_stop {e : St → St} (he : ∀ {s : St}, s.2 ≠ 0 → e s = s) {s : St} {k : Nat} (h : (itS e s k).2 ≠ 0) (n : Nat) (hk : k ≤ n) : itS e s n = itS e s k := by
  induction n with
  | zero => have : k = 0 := by omega
            subst this; rfl
  | succ n ih =>
    rcases Nat.lt_or_ge n k with h' | h'
    · have : k = n + 1 := by omega
      subst this; rfl
    · show e (itS e s n) = _
      rw [ih h', he h]

/-- what is let be, but for the film that is made and the reader -/
abbrev Sq (b q g : Nat) : Nat → Prop := fun z => z < b ∧ z ≠ q ∧ z ≠ g

theorem aw_near {b q g D : Nat} {w w' : World} (h : Aw (Sq b q g) w w') (hb : D ≤ b) (hq : D ≤ q) (hg : D ≤ g) (hw : D ≤ w.heap.size) : Below D w w' :=
  h.below (fun k hk => ⟨by omega, by omega, by omega⟩) hw

theorem aft_of_sq {b q g D : Nat} {a w w' : World} (h : Aft g D a w) (k : Aw (Sq b q g) w w') (hD : D ≤ b) (hq : D ≤ q) (ha : a.heap.size ≤ q) (hb : a.heap.size ≤ b) : Aft g D a w' :=
  ⟨k.os.trans h.os, k.tape.trans h.tape, k.output.trans h.output, Nat.le_trans h.size k.size, fun i h1 h2 h3 => (k.block i ⟨by omega, by omega, h3⟩ (Nat.lt_of_lt_of_le h2 h.size)).trans (h.block i h1 h2 h3), fun i cs t fr h1 h2 h3 => by
    have hi := Re.lt_of_heap h3
    exact (k.block i ⟨by omega, by omega, h1⟩ (Nat.lt_of_lt_of_le hi h.size)).trans (h.other i cs t fr h1 h2 h3)⟩

theorem aw_aft {b q g : Nat} {w w' : World} (h : Aft g w.heap.size w w') : Aw (Sq b q g) w w' := ⟨h.os, h.tape, h.output, h.size, fun k hk hw => h.block k hw hw hk.2.2⟩

theorem Lq.aw {lo q c b g : Nat} {a : Option Addr} {n : Nat} {L : Nat → Int} {w w' : World} (h : Lq lo q c a n L w) (ha : Aw (Sq b q g) w w') (hb : w.heap.size ≤ b) (hg : g < lo) : Lq lo q c a n L w' :=
  ⟨h.1, ((h.2.lt h.1).keep (fun k hk => ha.block k ⟨by omega, hk.1.2, by omega⟩ hk.2)).weak (fun k hk => hk.1)⟩

set_option maxHeartbeats 16000000 in
set_option maxRecDepth 100000 in
theorem take_err (g N : Nat) (ba : Option Addr) (bn bc : Nat) (lb : List UInt8) (s : St) (w : World) (hw : MAt g N ba bn bc lb s w) (h0 : (szT s).2 ≠ 0) : Calls Try.prog 43 #[.pointer (some ⟨g, 0, none⟩)] w fun e' w' => (∃ (a : Option Addr) (k c : Nat), e' = .returned (.agg #[.int .i64 (szW s), .int .i64 (szH s), .slice a k c]) ∧ RwP (fun b => w.heap.size ≤ b) 3 w' a k (itV triE triV 3 (szS s)) ∧ ((fT0 s).2 = 0 → k = fN s)) ∧ MAt g N ba bn bc lb (fT0 s) w' ∧ Aft g w.heap.size w w' := by
  have HPw := Lib.hid hw
  have hg : g < w.heap.size := hw.err.2.2.2
  clear hw
  obtain ⟨t, ht⟩ : ∃ t, t = szT s := ⟨_, rfl⟩
  rw [← ht] at h0
  have HT := Lib.hid ht
  clear ht
  obtain ⟨x1, hx1⟩ : ∃ x, x = (numS s 2).1 := ⟨_, rfl⟩
  obtain ⟨x2, hx2⟩ : ∃ x, x = (numS (numS s 2).2 2).1 := ⟨_, rfl⟩
  have lx1 : x1 < 65536 := by rw [hx1]; exact numS_lt s 2
  have lx2 : x2 < 65536 := by rw [hx2]; exact numS_lt _ 2
  have HX1 := Lib.hid hx1
  have HX2 := Lib.hid hx2
  clear hx1 hx2
  have hc1 : IntKind.i64.wrap (x1 : Int) = x1 := by rw [IntKind.wrap_i64]; omega
  have hc2 : IntKind.i64.wrap (x2 : Int) = x2 := by rw [IntKind.wrap_i64]; omega
  obtain ⟨n, hn⟩ : ∃ n, n = x1 * x2 := ⟨_, rfl⟩
  have hn4 : n ≤ 4294836225 := by rw [hn]; exact Nat.mul_le_mul (show x1 ≤ 65535 by omega) (show x2 ≤ 65535 by omega)
  have hnz : (x1 : Int) * x2 = n := by rw [hn]; simp
  have hw1 : IntKind.i64.wrap ((x1 : Int) * x2) = n := by rw [hnz, IntKind.wrap_i64]; omega
  have hw2 : wrap64 ((x1 : Int) * x2) = n := by rw [hnz]; unfold wrap64; omega
  have HN_ := Lib.hid hn
  have HNZ := Lib.hid hnz
  clear hn hnz
  go_enter Try.func43, Try.ntmps43
  go_upto_region 1 with fail
  have hR := Au.rows1 w (.cells #[.int .i64 0, .int .i64 0, .slice none 0 0] 24)
  have HUx := Ve.below_n1 w (.cells #[.int .i64 0, .int .i64 0, .slice none 0 0] 24)
  obtain ⟨y0, hy0⟩ : ∃ y0, w.alloc (.cells #[.int .i64 0, .int .i64 0, .slice none 0 0] 24) = y0 := ⟨_, rfl⟩
  rw [hy0] at hR HUx ⊢
  clear hy0
  have HP0 := Lib.hid (HPw.out.new HUx)
  have hz0 := HUx.size
  have HU0 := Lib.hid (Aft.of (g := g) (base := w.heap.size) HUx)
  clear HUx
  have hr0_0 := hR
  clear hR
  have hlz := lt_heap hr0_0
  have c0_0 := cell_of_row _ _ 0 _ _ _ hr0_0
  have c0_1 := cell_of_row _ _ 1 _ _ _ hr0_0
  have c0_2 := cell_of_row _ _ 2 _ _ _ hr0_0
  simp at c0_0 c0_1 c0_2
  go_wp2_with fail
  refine ((show Calls _ _ _ _ (fun e w' => e = .returned (.int .u64 (x1 : Int)) ∧ MAt g N ba bn bc lb (numS s 2).2 w' ∧ Aft g _ _ w') from by rw [HX1.out]; exact mnum_any g N ba bn bc lb s 2 (by omega) _ HP0.out)).mono ?_
  rintro e y1 ⟨rfl, hp1, hb1⟩
  have HP1 := Lib.hid hp1
  have hz1 := hb1.size
  clear c0_0 c0_1 c0_2
  have hr1_0 := (hb1.block _ (lt_heap hr0_0) (lt_heap hr0_0) (by omega)).trans hr0_0
  have HU1 := Lib.hid (HU0.out.trans (hb1.mono HU0.out.size))
  clear hr0_0 HU0
  have c0_0 := cell_of_row _ _ 0 _ _ _ hr1_0
  have c0_1 := cell_of_row _ _ 1 _ _ _ hr1_0
  have c0_2 := cell_of_row _ _ 2 _ _ _ hr1_0
  simp at c0_0 c0_1 c0_2
  go_wp2_with fail
  refine ((show Calls _ _ _ _ (fun e w' => e = .returned (.int .u64 (x2 : Int)) ∧ MAt g N ba bn bc lb t w' ∧ Aft g _ _ w') from by rw [HX2.out, HT.out]; exact mnum_any g N ba bn bc lb (numS s 2).2 2 (by omega) _ HP1.out)).mono ?_
  rintro e y2 ⟨rfl, hp2, hb2⟩
  have HP2 := Lib.hid hp2
  have hz2 := hb2.size
  clear c0_0 c0_1 c0_2
  have hr2_0 := (hb2.block _ (lt_heap hr1_0) (lt_heap hr1_0) (by omega)).trans hr1_0
  have HU2 := Lib.hid (HU1.out.trans (hb2.mono HU1.out.size))
  clear hr1_0 HU1
  obtain ⟨he, hf, -, hgl⟩ := HP2.out.err
  have d1 : (t.2 == 0) = false := by simpa using h0
  have d2 := decide_eq_false h0
  go_upto_region 6 with fail
  have hb3 := Ve.below_n1 y2 (.cells #[.int .i64 (x1 : Int), .int .i64 (x2 : Int), .slice none 0 0] 24)
  have hp3 := HP2.out.new hb3
  have hb3 := Aft.of (g := g) (base := y2.heap.size) hb3
  have hN := heap_alloc_last y2 (.cells #[.int .i64 (x1 : Int), .int .i64 (x2 : Int), .slice none 0 0] 24)
  obtain ⟨y3, hy3⟩ : ∃ y, y2.alloc (.cells #[.int .i64 (x1 : Int), .int .i64 (x2 : Int), .slice none 0 0] 24) = y := ⟨_, rfl⟩
  have hs3 : y3.heap.size = y2.heap.size + 1 := by rw [← hy3]; simp
  rw [hy3] at hb3 hN hp3 ⊢
  clear hy3
  have HP3 := Lib.hid hp3
  have hz3 := hb3.size
  have hl3_0 := lt_heap hr2_0
  have hr3_0 := (hb3.block _ (lt_heap hr2_0) (lt_heap hr2_0) (by omega)).trans hr2_0
  have HU3 := Lib.hid (HU2.out.trans (hb3.mono HU2.out.size))
  clear hr2_0 HU2
  have hr3_1 := hN
  clear hN
  obtain ⟨q, hq⟩ : ∃ q, q = y2.heap.size := ⟨_, rfl⟩
  have hqw : w.heap.size < q := by omega
  have hqg : g < q := by omega
  rw [← hq] at hr3_1 ⊢
  have hql := lt_heap hr3_1
  clear hq hs3
  try clear he hf
  obtain ⟨bl, hb_l⟩ : ∃ b, b = y3.heap.size := ⟨_, rfl⟩
  have hbql : q < bl := by rw [hb_l]; exact lt_heap hr3_1
  have hbgl : g < bl := by omega
  have hbel : bl ≤ y3.heap.size := by omega
  have hbfl : y3.heap.size ≤ bl := by omega
  clear hb_l
  go_upto_block 0 with fail
  go_cut [6] (fun i wx => ∃ (k : Nat) (v : Value), k ≤ n ∧ ((itS triE t n).2 = 0 → k = n) ∧ wx.heap[q]? = some (.cells #[.int .i64 (x1 : Int), .int .i64 (x2 : Int), v] 24 (0, 0)) ∧ Hid (wx.ownsRow bl 75 3 v k (flatc 3 (itV triE triV 3 t) k)) ∧ Hid (MAt g N ba bn bc lb (itS triE t n) wx) ∧ Hid (Aw (Sq bl q g) y3 wx))
  case first =>
    go_upto_region 7 with fail
    go_loopw [6] (fun i wr => ∃ (k : Nat) (v : Value), k ≤ n ∧ i = .int .i64 k ∧ wr.heap[q]? = some (.cells #[.int .i64 (x1 : Int), .int .i64 (x2 : Int), v] 24 (0, 0)) ∧ Hid (wr.ownsRow bl 75 3 v k (flatc 3 (itV triE triV 3 t) k)) ∧ Hid (MAt g N ba bn bc lb (itS triE t k) wr) ∧ Hid (Aw (Sq bl q g) y3 wr)) (fun i _ => n - (intOf i).toNat)
    case atStart => exact ⟨0, _, by omega, rfl, hr3_1, Lib.hid (by simpa [flatc] using World.ownsRow_nil _ _ _ _), HP3, Lib.hid (Aw.refl _ _)⟩
    case round =>
      obtain ⟨k, v, hk, rfl, hrq, HO, HM, HA⟩ := hrel
      have hsz := HA.out.size
      obtain ⟨s0, hs0⟩ : ∃ s : St, s = itS triE t k := ⟨_, rfl⟩
      rw [← hs0] at HM
      have HS0 := Lib.hid hs0
      clear hs0
      obtain ⟨he, hf, -, hgl⟩ := HM.out.err
      obtain ⟨te, hte⟩ : ∃ te, te = s0.2 := ⟨_, rfl⟩
      rw [← hte] at he
      have HTE := Lib.hid hte
      clear hte
      by_cases hlt : k < n
      · have hlt' : (k : Int) < n := by omega
        by_cases h0 : te = 0
        · subst h0
          obtain ⟨i0, hi, hz0, hz1, hz2⟩ := info_parts info_dhue
          obtain ⟨m0, hm0⟩ : ∃ x, x = triV s0 0 := ⟨_, rfl⟩
          obtain ⟨m1, hm1⟩ : ∃ x, x = triV s0 1 := ⟨_, rfl⟩
          obtain ⟨m2, hm2⟩ : ∃ x, x = triV s0 2 := ⟨_, rfl⟩
          have HX := Lib.hid (show flatc 3 (itV triE triV 3 t) (k + 1) = flatc 3 (itV triE triV 3 t) k ++ [.int .i64 m0, .int .i64 m1, .int .i64 m2] by rw [stp_hue, ← HS0.out, ← hm0, ← hm1, ← hm2])
          have HXV := Lib.hid (And.intro hm0 (And.intro hm1 hm2))
          clear hm0 hm1 hm2
          go_upto_region 9 with fail
          refine Ol.way_drew (S := fun y => y.heap[q]? = some (.cells #[.int .i64 (x1 : Int), .int .i64 (x2 : Int), v] 24 (0, 0))) (stop := 7) (by kernel_rfl) (hrq) (fun hS0 => ?_)
          obtain ⟨z0, hz0_⟩ : ∃ y, wr.drew = y := ⟨_, rfl⟩
          have HA0 := Lib.hid (show Aw (Sq bl q g) y3 z0 by rw [← hz0_]; exact HA.out.trans (Aw.of (Below.refl _ _).drew))
          have HO0 := Lib.hid (show z0.ownsRow bl 75 3 v k (flatc 3 (itV triE triV 3 t) k) by rw [← hz0_]; exact Ls.own_below HO.out (Below.refl _ _).drew)
          have HM0 := Lib.hid (show MAt g N ba bn bc lb s0 z0 by rw [← hz0_]; exact mat_drew HM.out)
          have hs0 : wr.heap.size ≤ z0.heap.size := by rw [← hz0_]; exact Nat.le_refl _
          rw [hz0_] at hS0 ⊢
          clear hz0_
          refine Ol.way_plain (i := 0) (v := ?_) rfl (by kernel_rfl) (by kernel_rfl) (by kernel_rfl) (fun _ _ _ h => h) (by decide) (Or.inl ⟨by kernel_rfl, by (intro wz _; go_simp; try with_reducible rfl)⟩) (Ol.on hS0) ?_
          go_simp
          refine Ol.way_take (i := 1) (v := ?_) rfl (by kernel_rfl) (by kernel_rfl) (by kernel_rfl) (fun _ _ _ h => h) (by decide) (by kernel_rfl) (by kernel_rfl) (Or.inl ⟨by kernel_rfl, by (intro wz hSz; have cq_ := cell_of_row _ _ 2 _ _ _ hSz; simp at cq_; go_simp; try with_reducible rfl)⟩) hS0 ?_
          go_simp
          refine Ol.way_plain (i := 2) (v := ?_) rfl (by kernel_rfl) (by kernel_rfl) (by kernel_rfl) (fun _ _ _ h => h) (by decide) (Or.inl ⟨by kernel_rfl, by (intro wz _; go_simp; try with_reducible rfl)⟩) (Ol.on hS0) ?_
          go_simp
          refine Ol.way_ready (rs := [3]) (by kernel_rfl) (by simp) ?_
          refine Ol.Each.cons rfl (fun K hK => ?_) Ol.Each.nil
          go_simp
          go_wp2_with (go_at_call 47; refine (show Calls _ _ _ _ (fun e w' => e = .returned (.agg #[.int .i64 m0, .int .i64 m1, .int .i64 m2]) ∧ MAt g N ba bn bc lb (triE s0) w' ∧ Aft g _ _ w') from by rw [HXV.out.1, HXV.out.2.1, HXV.out.2.2]; exact mvec_any g N ba bn bc lb s0 _ HM0.out).mono ?_; rintro e z1 ⟨rfl, hm1, ha1⟩)
          have HA1 := Lib.hid (HA0.out.trans (aw_aft ha1))
          have HO1 := Lib.hid (own_aft HO0.out ha1 (by omega))
          have HM1 := Lib.hid hm1
          have hs1 := ha1.size
          have hq1 := (ha1.block q (lt_heap hS0) (lt_heap hS0) (by omega)).trans hS0
          refine Ol.keep hK _ _ (hq1) (fun hS1 => ?_)
          clear hK K
          refine Ol.way_ready (rs := [4]) (by kernel_rfl) (by simp) ?_
          refine Ol.Each.cons rfl (fun K hK => ?_) Ol.Each.nil
          go_simp
          have hb2 := Ve.below_n1 z1 (.cells #[.int .i64 m0, .int .i64 m1, .int .i64 m2] 75)
          have hN2 := heap_alloc_last z1 (.cells #[.int .i64 m0, .int .i64 m1, .int .i64 m2] 75)
          obtain ⟨z2, hz2_⟩ : ∃ y, z1.alloc (.cells #[.int .i64 m0, .int .i64 m1, .int .i64 m2] 75) = y := ⟨_, rfl⟩
          rw [hz2_] at hb2 hN2 ⊢
          clear hz2_
          have HA2 := Lib.hid (HA1.out.trans (Aw.of hb2))
          have HO2 := Lib.hid (Ls.own_below HO1.out hb2)
          have HM2 := Lib.hid (HM1.out.on hb2)
          have hs2 := hb2.size
          refine Ol.keep hK _ _ ((hb2.block _ (lt_heap hS1)).trans hS1) (fun hS2 => ?_)
          clear hK K
          refine Ol.way_ready (rs := [5]) (by kernel_rfl) (by simp) ?_
          refine Ol.Each.cons rfl (fun K hK => ?_) Ol.Each.nil
          refine step_append_lies _ rfl _ _ 22 rfl bl 75 i0 (.agg #[.int .i64 0, .int .i64 0, .int .i64 0]) 3 24 Try.underlying22 hi hz0 hz1 hz2 rfl (by decide) _ _ _ rfl HO2.out ⟨z1.heap.size, 0, none⟩ 1 1 [.int .i64 m0, .int .i64 m1, .int .i64 m2] rfl rfl ?c1 ?c2 (by omega) ?c3 ?c4 ?c5 _ rfl ?_
          case c1 => exact World.news_of_block hN2
          case c2 => intro u hu; simp at hu; rcases hu with rfl | rfl | rfl <;> rfl
          case c3 => unfold maxLen; omega
          case c4 => omega
          case c5 => omega
          intro g9 cg z3 hown hgrow hgk hlt2
          have hqo := fun r hr => (HO2.out.lt r hr).1
          have HA3 := Lib.hid (HA2.out.step hgrow (fun r hr => by have := hqo r hr; omega))
          rw [← HX.out] at hown
          have hqn : q ≠ g9 := by rcases hgk with h | h <;> first | omega | (have := hqo _ h; omega)
          have hq3 := (hgrow.block q (lt_heap hS2) (fun e => by have := hqo _ e.symm; omega)).trans hS2
          have hs3 := hgrow.size
          have HM3 := Lib.hid (mat_near HM2.out ((Below.refl (g + 1) _).grown hgrow (by omega) (fun r hr => by have := hqo r hr; omega)))
          refine Ol.keep hK _ _ (hq3) (fun hS3 => ?_)
          clear hK K
          refine Ol.way_plain (i := 6) (v := ?_) rfl (by kernel_rfl) (by kernel_rfl) (by kernel_rfl) (fun _ _ _ h => h) (by decide) (Or.inl ⟨by kernel_rfl, by (intro wz _; go_simp; try with_reducible rfl)⟩) (Ol.on hS3) ?_
          go_simp
          refine Ol.way_ready (rs := [7]) (by kernel_rfl) (by simp) ?_
          refine Ol.Each.cons rfl (fun K hK => ?_) Ol.Each.nil
          have p0 := cell_of_row _ _ 2 _ _ _ hq3
          simp at p0
          have fz : ∀ j, z3.frozen? ⟨q, j, none⟩ = false := fun j => by simp [World.frozen?, hq3]
          go_simp
          clear fz p0
          have hN : (z3.setCell ⟨q, 2, none⟩ (.slice (some ⟨g9, 0, none⟩) (k + 1) cg)).heap[q]? = some (.cells #[.int .i64 (x1 : Int), .int .i64 (x2 : Int), .slice (some ⟨g9, 0, none⟩) (k + 1) cg] 24 (0, 0)) := heap_setCell_same _ _ 2 _ _ _ hq3
          have HA4 := Lib.hid (HA3.out.set (b := q) (fun h => h.2.1 rfl) 2 (.slice (some ⟨g9, 0, none⟩) (k + 1) cg))
          have HM4 := Lib.hid (show MAt g N ba bn bc lb (itS triE t (k + 1)) (z3.setCell ⟨q, 2, none⟩ (.slice (some ⟨g9, 0, none⟩) (k + 1) cg)) by show MAt g N ba bn bc lb (triE (itS triE t k)) _; rw [← HS0.out]; exact HM3.out.setFar (by omega) _ _)
          have HO4 := Lib.hid (own_via (w' := (z3.setCell ⟨q, 2, none⟩ (.slice (some ⟨g9, 0, none⟩) (k + 1) cg))) hown (fun r hr => Below.heap_setCell _ _ _ _ (by simp [Value.ownBlock] at hr; show r ≠ q; omega)))
          refine Ol.past hK (by kernel_rfl) _ _ ?_
          clear hK K
          refine Ol.way_done (by kernel_rfl) ?_ _
          go_wp2
          go_roundw
          case rel => exact ⟨k + 1, _, by omega, by go_num, hN, HO4, HM4, HA4⟩
          case measure => simp [intOf]; omega
        · have d1 : (te == 0) = false := by simpa using h0
          have d2 := decide_eq_false h0
          have hkp : itS triE t n = s0 := by rw [it_stop tri_keep (k := k) (by rw [← HS0.out, ← HTE.out]; exact h0) n hk]; exact HS0.out.symm
          have hkn : (itS triE t n).2 ≠ 0 := by rw [hkp, ← HTE.out]; exact h0
          have HMx := Lib.hid (show MAt g N ba bn bc lb (itS triE t n) wr by rw [hkp]; exact HM.out)
          have HKN := Lib.hid hkn
          clear hkp hkn
          go_wp2_with fail
          go_meet
          exact ⟨k, v, hk, fun h => absurd h HKN.out, hrq, HO, HMx, HA⟩
      · have HKK := Lib.hid (show k = n by omega)
        have hge : ¬ (k : Int) < n := by omega
        clear hlt
        have HMx := Lib.hid (show MAt g N ba bn bc lb (itS triE t n) wr by rw [← HKK.out, ← HS0.out]; exact HM.out)
        go_wp2_with fail
        go_meet
        exact ⟨k, v, hk, fun _ => HKK.out, hrq, HO, HMx, HA⟩
  case rest =>
    obtain ⟨kl, vl, hkl, hokl, hr4_1, HOl, HPx, HAl⟩ := hcut
    obtain ⟨y4, hwc⟩ : ∃ y : World, y = wc := ⟨_, rfl⟩
    rw [← hwc] at hr4_1 HOl HPx HAl ⊢
    clear hwc
    have HOKl := Lib.hid hokl
    clear hokl
    obtain ⟨al, cl, hvl⟩ := own_slice HOl.out
    subst hvl
    have hr4_0 := (HAl.out.block _ ⟨by have := lt_heap hr3_0; omega, by have := lt_heap hr3_0; omega, by have := lt_heap hr3_0; omega⟩ (lt_heap hr3_0)).trans hr3_0
    have hz4 := HAl.out.size
    have HU4 := Lib.hid (aft_of_sq HU3.out HAl.out (by omega) (by omega) (by omega) (by omega))
    have HP4 := HPx
    clear HPx
    have HLl4 := Lib.hid (show Lq (w.heap.size + 1) q 3 al kl (itV triE triV 3 t) y4 from ⟨by decide, rwp_own _ HOl.out (fun b h1 _ _ => ⟨by omega, by omega⟩)⟩)
    clear HOl HAl
    clear hr3_0 hr3_1 HU3 HP3
    have c1_0 := cell_of_row _ _ 0 _ _ _ hr4_1
    have c1_1 := cell_of_row _ _ 1 _ _ _ hr4_1
    have c1_2 := cell_of_row _ _ 2 _ _ _ hr4_1
    simp at c1_0 c1_1 c1_2
    have hHr := Lib.hid hr4_0
    have hHi := Lib.hid (show (Try.prog.info? 24).map (·.size) = some (#[.int .i64 (x1 : Int), .int .i64 (x2 : Int), .slice al kl cl] : Array Value).size by kernel_rfl)
    have hHz := Lib.hid (show (#[.int .i64 0, .int .i64 0, .slice none 0 0] : Array Value).size = (#[.int .i64 (x1 : Int), .int .i64 (x2 : Int), .slice al kl cl] : Array Value).size from rfl)
    have hHo := Lib.hid (show (#[.int .i64 (x1 : Int), .int .i64 (x2 : Int), .slice al kl cl] : Array Value).all (·.oneCell') = true by simp [Value.oneCell'])
    go_wp2_with (first | (refine Au.wpList_store_row rfl 24 (.tmp 2) (.tmp 51) rfl y4 #[.int .i64 0, .int .i64 0, .slice none 0 0] #[.int .i64 (x1 : Int), .int .i64 (x2 : Int), .slice al kl cl] (w.heap.size) 24 hHr.out rfl rfl hHi.out hHz.out hHo.out ?_))
    clear c1_0 c1_1 c1_2
    clear hHr hHi hHz hHo
    have hN := setRow_heap _ (w.heap.size) _ #[.int .i64 (x1 : Int), .int .i64 (x2 : Int), .slice al kl cl] _ _ hr4_0
    have hsz := HU4.out.size
    have HUx := aft_setRow (k := w.heap.size) HU4.out (by omega) (by omega) #[.int .i64 (x1 : Int), .int .i64 (x2 : Int), .slice al kl cl]
    have hPx := mat_setRow (k := w.heap.size) HP4.out (by omega) #[.int .i64 (x1 : Int), .int .i64 (x2 : Int), .slice al kl cl]
    have hO : ∀ kk, kk ≠ w.heap.size → (y4.setRow (w.heap.size) #[.int .i64 (x1 : Int), .int .i64 (x2 : Int), .slice al kl cl]).heap[kk]? = y4.heap[kk]? := fun kk hk => setRow_other _ _ _ _ hk
    obtain ⟨y5, hy5⟩ : ∃ y, y4.setRow (w.heap.size) #[.int .i64 (x1 : Int), .int .i64 (x2 : Int), .slice al kl cl] = y := ⟨_, rfl⟩
    rw [hy5] at hN HUx hO hPx ⊢
    clear hy5 hsz
    have HU5 := Lib.hid HUx
    clear HUx
    have HP5 := Lib.hid hPx
    have hz5 := HU5.out.size
    have hr5_0 := hN
    have hr5_1 := (hO _ (by omega)).trans hr4_1
    have YL := Lib.hid ((Lq.heap (w' := y5) HLl4.out (fun k h => hO k (by omega))).low (b2 := w.heap.size) (by omega))
    clear hN hO
    clear hr4_0 hr4_1 HU4
    have c0_0 := cell_of_row _ _ 0 _ _ _ hr5_0
    have c0_1 := cell_of_row _ _ 1 _ _ _ hr5_0
    have c0_2 := cell_of_row _ _ 2 _ _ _ hr5_0
    simp at c0_0 c0_1 c0_2
    go_wp2
    have eW : (x1 : Int) = szW s := by rw [HX1.out]; rfl
    have eH : (x2 : Int) = szH s := by rw [HX2.out]; rfl
    have eS : szS s = t := by
      unfold szS
      rw [← HT.out]
      split
      · rfl
      · unfold failS; rw [if_neg h0]
    have eT : itS triE t n = fT0 s := by unfold fT0; rw [eS, it_stay tri_keep h0, it_stay tri_keep h0]
    have eN : (fT0 s).2 ≠ 0 := by rw [← eT, it_stay tri_keep h0]; exact h0
    exact bodyPost_ret (v := .agg #[.int .i64 (x1 : Int), .int .i64 (x2 : Int), .slice al kl cl]) (by simp [results, Try.results43, go_sem, c0_0, c0_1, c0_2]) rfl ⟨⟨al, kl, cl, by rw [eW, eH], by rw [eS]; exact YL.out, fun h => absurd h eN⟩, by rw [← eT]; exact HP5.out, HU5.out⟩

set_option maxHeartbeats 16000000 in
set_option maxRecDepth 100000 in
theorem take_bad (g N : Nat) (ba : Option Addr) (bn bc : Nat) (lb : List UInt8) (s : St) (w : World) (hw : MAt g N ba bn bc lb s w) (h0 : (szT s).2 = 0) (hok : ¬ okSz (szW s) (szH s)) : Calls Try.prog 43 #[.pointer (some ⟨g, 0, none⟩)] w fun e' w' => (∃ (a : Option Addr) (k c : Nat), e' = .returned (.agg #[.int .i64 (szW s), .int .i64 (szH s), .slice a k c]) ∧ RwP (fun b => w.heap.size ≤ b) 3 w' a k (itV triE triV 3 (szS s)) ∧ ((fT0 s).2 = 0 → k = fN s)) ∧ MAt g N ba bn bc lb (fT0 s) w' ∧ Aft g w.heap.size w w' := by
  have HPw := Lib.hid hw
  have hg : g < w.heap.size := hw.err.2.2.2
  clear hw
  obtain ⟨t, ht⟩ : ∃ t, t = szT s := ⟨_, rfl⟩
  rw [← ht] at h0
  have HT := Lib.hid ht
  clear ht
  obtain ⟨x1, hx1⟩ : ∃ x, x = (numS s 2).1 := ⟨_, rfl⟩
  obtain ⟨x2, hx2⟩ : ∃ x, x = (numS (numS s 2).2 2).1 := ⟨_, rfl⟩
  have lx1 : x1 < 65536 := by rw [hx1]; exact numS_lt s 2
  have lx2 : x2 < 65536 := by rw [hx2]; exact numS_lt _ 2
  have HX1 := Lib.hid hx1
  have HX2 := Lib.hid hx2
  clear hx1 hx2
  have hc1 : IntKind.i64.wrap (x1 : Int) = x1 := by rw [IntKind.wrap_i64]; omega
  have hc2 : IntKind.i64.wrap (x2 : Int) = x2 := by rw [IntKind.wrap_i64]; omega
  obtain ⟨n, hn⟩ : ∃ n, n = x1 * x2 := ⟨_, rfl⟩
  have hn4 : n ≤ 4294836225 := by rw [hn]; exact Nat.mul_le_mul (show x1 ≤ 65535 by omega) (show x2 ≤ 65535 by omega)
  have hnz : (x1 : Int) * x2 = n := by rw [hn]; simp
  have hw1 : IntKind.i64.wrap ((x1 : Int) * x2) = n := by rw [hnz, IntKind.wrap_i64]; omega
  have hw2 : wrap64 ((x1 : Int) * x2) = n := by rw [hnz]; unfold wrap64; omega
  have HN_ := Lib.hid hn
  have HNZ := Lib.hid hnz
  clear hn hnz
  have HOK := Lib.hid (show decide (okSz (x1 : Int) (x2 : Int)) = false by rw [HX1.out, HX2.out]; exact decide_eq_false hok)
  clear hok
  go_enter Try.func43, Try.ntmps43
  go_upto_region 1 with fail
  have hR := Au.rows1 w (.cells #[.int .i64 0, .int .i64 0, .slice none 0 0] 24)
  have HUx := Ve.below_n1 w (.cells #[.int .i64 0, .int .i64 0, .slice none 0 0] 24)
  obtain ⟨y0, hy0⟩ : ∃ y0, w.alloc (.cells #[.int .i64 0, .int .i64 0, .slice none 0 0] 24) = y0 := ⟨_, rfl⟩
  rw [hy0] at hR HUx ⊢
  clear hy0
  have HP0 := Lib.hid (HPw.out.new HUx)
  have hz0 := HUx.size
  have HU0 := Lib.hid (Aft.of (g := g) (base := w.heap.size) HUx)
  clear HUx
  have hr0_0 := hR
  clear hR
  have hlz := lt_heap hr0_0
  have c0_0 := cell_of_row _ _ 0 _ _ _ hr0_0
  have c0_1 := cell_of_row _ _ 1 _ _ _ hr0_0
  have c0_2 := cell_of_row _ _ 2 _ _ _ hr0_0
  simp at c0_0 c0_1 c0_2
  go_wp2_with fail
  refine ((show Calls _ _ _ _ (fun e w' => e = .returned (.int .u64 (x1 : Int)) ∧ MAt g N ba bn bc lb (numS s 2).2 w' ∧ Aft g _ _ w') from by rw [HX1.out]; exact mnum_any g N ba bn bc lb s 2 (by omega) _ HP0.out)).mono ?_
  rintro e y1 ⟨rfl, hp1, hb1⟩
  have HP1 := Lib.hid hp1
  have hz1 := hb1.size
  clear c0_0 c0_1 c0_2
  have hr1_0 := (hb1.block _ (lt_heap hr0_0) (lt_heap hr0_0) (by omega)).trans hr0_0
  have HU1 := Lib.hid (HU0.out.trans (hb1.mono HU0.out.size))
  clear hr0_0 HU0
  have c0_0 := cell_of_row _ _ 0 _ _ _ hr1_0
  have c0_1 := cell_of_row _ _ 1 _ _ _ hr1_0
  have c0_2 := cell_of_row _ _ 2 _ _ _ hr1_0
  simp at c0_0 c0_1 c0_2
  go_wp2_with fail
  refine ((show Calls _ _ _ _ (fun e w' => e = .returned (.int .u64 (x2 : Int)) ∧ MAt g N ba bn bc lb t w' ∧ Aft g _ _ w') from by rw [HX2.out, HT.out]; exact mnum_any g N ba bn bc lb (numS s 2).2 2 (by omega) _ HP1.out)).mono ?_
  rintro e y2 ⟨rfl, hp2, hb2⟩
  have HP2 := Lib.hid hp2
  have hz2 := hb2.size
  clear c0_0 c0_1 c0_2
  have hr2_0 := (hb2.block _ (lt_heap hr1_0) (lt_heap hr1_0) (by omega)).trans hr1_0
  have HU2 := Lib.hid (HU1.out.trans (hb2.mono HU1.out.size))
  clear hr1_0 HU1
  obtain ⟨he, hf, -, hgl⟩ := HP2.out.err
  obtain ⟨tl, te⟩ := t
  have h0 : te = 0 := h0
  subst h0
  have he : y2.cell? ⟨g, 2, none⟩ = some (.int .i64 0) := he
  go_wp2_with fail
  refine (drsize_any (x1 : Int) (x2 : Int) _).mono ?_
  rintro e ww ⟨rfl, hww⟩
  rw [hww, HOK.out]
  clear hww
  go_upto_region 5 with fail
  have hO : ∀ kk, kk ≠ g → (y2.setCell ⟨g, 2, none⟩ (.int .i64 10)).heap[kk]? = y2.heap[kk]? := fun kk hk => Below.heap_setCell _ _ _ _ hk
  have hPx := HP2.out.setErr 10
  have HUx := HU2.out.setCell 2 (.int .i64 10)
  have hzx : y2.heap.size ≤ (y2.setCell ⟨g, 2, none⟩ (.int .i64 10)).heap.size := by simp
  obtain ⟨y3, hy3⟩ : ∃ y, y2.setCell ⟨g, 2, none⟩ (.int .i64 10) = y := ⟨_, rfl⟩
  rw [hy3] at hO hPx HUx hzx ⊢
  clear hy3
  have HP3 := Lib.hid hPx
  have HU3 := Lib.hid HUx
  have hz3 := hzx
  have hr3_0 := (hO _ (by omega)).trans hr2_0
  clear hO hPx HUx hzx hr2_0 HP2 HU2
  go_upto_region 6 with fail
  have hb4 := Ve.below_n1 y3 (.cells #[.int .i64 (x1 : Int), .int .i64 (x2 : Int), .slice none 0 0] 24)
  have hp4 := HP3.out.new hb4
  have hb4 := Aft.of (g := g) (base := y3.heap.size) hb4
  have hN := heap_alloc_last y3 (.cells #[.int .i64 (x1 : Int), .int .i64 (x2 : Int), .slice none 0 0] 24)
  obtain ⟨y4, hy4⟩ : ∃ y, y3.alloc (.cells #[.int .i64 (x1 : Int), .int .i64 (x2 : Int), .slice none 0 0] 24) = y := ⟨_, rfl⟩
  have hs4 : y4.heap.size = y3.heap.size + 1 := by rw [← hy4]; simp
  rw [hy4] at hb4 hN hp4 ⊢
  clear hy4
  have HP4 := Lib.hid hp4
  have hz4 := hb4.size
  have hl4_0 := lt_heap hr3_0
  have hr4_0 := (hb4.block _ (lt_heap hr3_0) (lt_heap hr3_0) (by omega)).trans hr3_0
  have HU4 := Lib.hid (HU3.out.trans (hb4.mono HU3.out.size))
  clear hr3_0 HU3
  have hr4_1 := hN
  clear hN
  obtain ⟨q, hq⟩ : ∃ q, q = y3.heap.size := ⟨_, rfl⟩
  have hqw : w.heap.size < q := by omega
  have hqg : g < q := by omega
  rw [← hq] at hr4_1 ⊢
  have hql := lt_heap hr4_1
  clear hq hs4
  try clear he hf
  obtain ⟨bl, hb_l⟩ : ∃ b, b = y4.heap.size := ⟨_, rfl⟩
  have hbql : q < bl := by rw [hb_l]; exact lt_heap hr4_1
  have hbgl : g < bl := by omega
  have hbel : bl ≤ y4.heap.size := by omega
  have hbfl : y4.heap.size ≤ bl := by omega
  clear hb_l
  go_upto_block 0 with fail
  go_cut [6] (fun i wx => ∃ (k : Nat) (v : Value), k ≤ n ∧ ((itS triE ((tl, 10) : St) n).2 = 0 → k = n) ∧ wx.heap[q]? = some (.cells #[.int .i64 (x1 : Int), .int .i64 (x2 : Int), v] 24 (0, 0)) ∧ Hid (wx.ownsRow bl 75 3 v k (flatc 3 (itV triE triV 3 ((tl, 10) : St)) k)) ∧ Hid (MAt g N ba bn bc lb (itS triE ((tl, 10) : St) n) wx) ∧ Hid (Aw (Sq bl q g) y4 wx))
  case first =>
    go_upto_region 7 with fail
    go_loopw [6] (fun i wr => ∃ (k : Nat) (v : Value), k ≤ n ∧ i = .int .i64 k ∧ wr.heap[q]? = some (.cells #[.int .i64 (x1 : Int), .int .i64 (x2 : Int), v] 24 (0, 0)) ∧ Hid (wr.ownsRow bl 75 3 v k (flatc 3 (itV triE triV 3 ((tl, 10) : St)) k)) ∧ Hid (MAt g N ba bn bc lb (itS triE ((tl, 10) : St) k) wr) ∧ Hid (Aw (Sq bl q g) y4 wr)) (fun i _ => n - (intOf i).toNat)
    case atStart => exact ⟨0, _, by omega, rfl, hr4_1, Lib.hid (by simpa [flatc] using World.ownsRow_nil _ _ _ _), HP4, Lib.hid (Aw.refl _ _)⟩
    case round =>
      obtain ⟨k, v, hk, rfl, hrq, HO, HM, HA⟩ := hrel
      have hsz := HA.out.size
      obtain ⟨s0, hs0⟩ : ∃ s : St, s = itS triE ((tl, 10) : St) k := ⟨_, rfl⟩
      rw [← hs0] at HM
      have HS0 := Lib.hid hs0
      clear hs0
      obtain ⟨he, hf, -, hgl⟩ := HM.out.err
      obtain ⟨te, hte⟩ : ∃ te, te = s0.2 := ⟨_, rfl⟩
      rw [← hte] at he
      have HTE := Lib.hid hte
      clear hte
      by_cases hlt : k < n
      · have hlt' : (k : Int) < n := by omega
        by_cases h0 : te = 0
        · subst h0
          obtain ⟨i0, hi, hz0, hz1, hz2⟩ := info_parts info_dhue
          obtain ⟨m0, hm0⟩ : ∃ x, x = triV s0 0 := ⟨_, rfl⟩
          obtain ⟨m1, hm1⟩ : ∃ x, x = triV s0 1 := ⟨_, rfl⟩
          obtain ⟨m2, hm2⟩ : ∃ x, x = triV s0 2 := ⟨_, rfl⟩
          have HX := Lib.hid (show flatc 3 (itV triE triV 3 ((tl, 10) : St)) (k + 1) = flatc 3 (itV triE triV 3 ((tl, 10) : St)) k ++ [.int .i64 m0, .int .i64 m1, .int .i64 m2] by rw [stp_hue, ← HS0.out, ← hm0, ← hm1, ← hm2])
          have HXV := Lib.hid (And.intro hm0 (And.intro hm1 hm2))
          clear hm0 hm1 hm2
          go_upto_region 9 with fail
          refine Ol.way_drew (S := fun y => y.heap[q]? = some (.cells #[.int .i64 (x1 : Int), .int .i64 (x2 : Int), v] 24 (0, 0))) (stop := 7) (by kernel_rfl) (hrq) (fun hS0 => ?_)
          obtain ⟨z0, hz0_⟩ : ∃ y, wr.drew = y := ⟨_, rfl⟩
          have HA0 := Lib.hid (show Aw (Sq bl q g) y4 z0 by rw [← hz0_]; exact HA.out.trans (Aw.of (Below.refl _ _).drew))
          have HO0 := Lib.hid (show z0.ownsRow bl 75 3 v k (flatc 3 (itV triE triV 3 ((tl, 10) : St)) k) by rw [← hz0_]; exact Ls.own_below HO.out (Below.refl _ _).drew)
          have HM0 := Lib.hid (show MAt g N ba bn bc lb s0 z0 by rw [← hz0_]; exact mat_drew HM.out)
          have hs0 : wr.heap.size ≤ z0.heap.size := by rw [← hz0_]; exact Nat.le_refl _
          rw [hz0_] at hS0 ⊢
          clear hz0_
          refine Ol.way_plain (i := 0) (v := ?_) rfl (by kernel_rfl) (by kernel_rfl) (by kernel_rfl) (fun _ _ _ h => h) (by decide) (Or.inl ⟨by kernel_rfl, by (intro wz _; go_simp; try with_reducible rfl)⟩) (Ol.on hS0) ?_
          go_simp
          refine Ol.way_take (i := 1) (v := ?_) rfl (by kernel_rfl) (by kernel_rfl) (by kernel_rfl) (fun _ _ _ h => h) (by decide) (by kernel_rfl) (by kernel_rfl) (Or.inl ⟨by kernel_rfl, by (intro wz hSz; have cq_ := cell_of_row _ _ 2 _ _ _ hSz; simp at cq_; go_simp; try with_reducible rfl)⟩) hS0 ?_
          go_simp
          refine Ol.way_plain (i := 2) (v := ?_) rfl (by kernel_rfl) (by kernel_rfl) (by kernel_rfl) (fun _ _ _ h => h) (by decide) (Or.inl ⟨by kernel_rfl, by (intro wz _; go_simp; try with_reducible rfl)⟩) (Ol.on hS0) ?_
          go_simp
          refine Ol.way_ready (rs := [3]) (by kernel_rfl) (by simp) ?_
          refine Ol.Each.cons rfl (fun K hK => ?_) Ol.Each.nil
          go_simp
          go_wp2_with (go_at_call 47; refine (show Calls _ _ _ _ (fun e w' => e = .returned (.agg #[.int .i64 m0, .int .i64 m1, .int .i64 m2]) ∧ MAt g N ba bn bc lb (triE s0) w' ∧ Aft g _ _ w') from by rw [HXV.out.1, HXV.out.2.1, HXV.out.2.2]; exact mvec_any g N ba bn bc lb s0 _ HM0.out).mono ?_; rintro e z1 ⟨rfl, hm1, ha1⟩)
          have HA1 := Lib.hid (HA0.out.trans (aw_aft ha1))
          have HO1 := Lib.hid (own_aft HO0.out ha1 (by omega))
          have HM1 := Lib.hid hm1
          have hs1 := ha1.size
          have hq1 := (ha1.block q (lt_heap hS0) (lt_heap hS0) (by omega)).trans hS0
          refine Ol.keep hK _ _ (hq1) (fun hS1 => ?_)
          clear hK K
          refine Ol.way_ready (rs := [4]) (by kernel_rfl) (by simp) ?_
          refine Ol.Each.cons rfl (fun K hK => ?_) Ol.Each.nil
          go_simp
          have hb2 := Ve.below_n1 z1 (.cells #[.int .i64 m0, .int .i64 m1, .int .i64 m2] 75)
          have hN2 := heap_alloc_last z1 (.cells #[.int .i64 m0, .int .i64 m1, .int .i64 m2] 75)
          obtain ⟨z2, hz2_⟩ : ∃ y, z1.alloc (.cells #[.int .i64 m0, .int .i64 m1, .int .i64 m2] 75) = y := ⟨_, rfl⟩
          rw [hz2_] at hb2 hN2 ⊢
          clear hz2_
          have HA2 := Lib.hid (HA1.out.trans (Aw.of hb2))
          have HO2 := Lib.hid (Ls.own_below HO1.out hb2)
          have HM2 := Lib.hid (HM1.out.on hb2)
          have hs2 := hb2.size
          refine Ol.keep hK _ _ ((hb2.block _ (lt_heap hS1)).trans hS1) (fun hS2 => ?_)
          clear hK K
          refine Ol.way_ready (rs := [5]) (by kernel_rfl) (by simp) ?_
          refine Ol.Each.cons rfl (fun K hK => ?_) Ol.Each.nil
          refine step_append_lies _ rfl _ _ 22 rfl bl 75 i0 (.agg #[.int .i64 0, .int .i64 0, .int .i64 0]) 3 24 Try.underlying22 hi hz0 hz1 hz2 rfl (by decide) _ _ _ rfl HO2.out ⟨z1.heap.size, 0, none⟩ 1 1 [.int .i64 m0, .int .i64 m1, .int .i64 m2] rfl rfl ?c1 ?c2 (by omega) ?c3 ?c4 ?c5 _ rfl ?_
          case c1 => exact World.news_of_block hN2
          case c2 => intro u hu; simp at hu; rcases hu with rfl | rfl | rfl <;> rfl
          case c3 => unfold maxLen; omega
          case c4 => omega
          case c5 => omega
          intro g9 cg z3 hown hgrow hgk hlt2
          have hqo := fun r hr => (HO2.out.lt r hr).1
          have HA3 := Lib.hid (HA2.out.step hgrow (fun r hr => by have := hqo r hr; omega))
          rw [← HX.out] at hown
          have hqn : q ≠ g9 := by rcases hgk with h | h <;> first | omega | (have := hqo _ h; omega)
          have hq3 := (hgrow.block q (lt_heap hS2) (fun e => by have := hqo _ e.symm; omega)).trans hS2
          have hs3 := hgrow.size
          have HM3 := Lib.hid (mat_near HM2.out ((Below.refl (g + 1) _).grown hgrow (by omega) (fun r hr => by have := hqo r hr; omega)))
          refine Ol.keep hK _ _ (hq3) (fun hS3 => ?_)
          clear hK K
          refine Ol.way_plain (i := 6) (v := ?_) rfl (by kernel_rfl) (by kernel_rfl) (by kernel_rfl) (fun _ _ _ h => h) (by decide) (Or.inl ⟨by kernel_rfl, by (intro wz _; go_simp; try with_reducible rfl)⟩) (Ol.on hS3) ?_
          go_simp
          refine Ol.way_ready (rs := [7]) (by kernel_rfl) (by simp) ?_
          refine Ol.Each.cons rfl (fun K hK => ?_) Ol.Each.nil
          have p0 := cell_of_row _ _ 2 _ _ _ hq3
          simp at p0
          have fz : ∀ j, z3.frozen? ⟨q, j, none⟩ = false := fun j => by simp [World.frozen?, hq3]
          go_simp
          clear fz p0
          have hN : (z3.setCell ⟨q, 2, none⟩ (.slice (some ⟨g9, 0, none⟩) (k + 1) cg)).heap[q]? = some (.cells #[.int .i64 (x1 : Int), .int .i64 (x2 : Int), .slice (some ⟨g9, 0, none⟩) (k + 1) cg] 24 (0, 0)) := heap_setCell_same _ _ 2 _ _ _ hq3
          have HA4 := Lib.hid (HA3.out.set (b := q) (fun h => h.2.1 rfl) 2 (.slice (some ⟨g9, 0, none⟩) (k + 1) cg))
          have HM4 := Lib.hid (show MAt g N ba bn bc lb (itS triE ((tl, 10) : St) (k + 1)) (z3.setCell ⟨q, 2, none⟩ (.slice (some ⟨g9, 0, none⟩) (k + 1) cg)) by show MAt g N ba bn bc lb (triE (itS triE ((tl, 10) : St) k)) _; rw [← HS0.out]; exact HM3.out.setFar (by omega) _ _)
          have HO4 := Lib.hid (own_via (w' := (z3.setCell ⟨q, 2, none⟩ (.slice (some ⟨g9, 0, none⟩) (k + 1) cg))) hown (fun r hr => Below.heap_setCell _ _ _ _ (by simp [Value.ownBlock] at hr; show r ≠ q; omega)))
          refine Ol.past hK (by kernel_rfl) _ _ ?_
          clear hK K
          refine Ol.way_done (by kernel_rfl) ?_ _
          go_wp2
          go_roundw
          case rel => exact ⟨k + 1, _, by omega, by go_num, hN, HO4, HM4, HA4⟩
          case measure => simp [intOf]; omega
        · have d1 : (te == 0) = false := by simpa using h0
          have d2 := decide_eq_false h0
          have hkp : itS triE ((tl, 10) : St) n = s0 := by rw [it_stop tri_keep (k := k) (by rw [← HS0.out, ← HTE.out]; exact h0) n hk]; exact HS0.out.symm
          have hkn : (itS triE ((tl, 10) : St) n).2 ≠ 0 := by rw [hkp, ← HTE.out]; exact h0
          have HMx := Lib.hid (show MAt g N ba bn bc lb (itS triE ((tl, 10) : St) n) wr by rw [hkp]; exact HM.out)
          have HKN := Lib.hid hkn
          clear hkp hkn
          go_wp2_with fail
          go_meet
          exact ⟨k, v, hk, fun h => absurd h HKN.out, hrq, HO, HMx, HA⟩
      · have HKK := Lib.hid (show k = n by omega)
        have hge : ¬ (k : Int) < n := by omega
        clear hlt
        have HMx := Lib.hid (show MAt g N ba bn bc lb (itS triE ((tl, 10) : St) n) wr by rw [← HKK.out, ← HS0.out]; exact HM.out)
        go_wp2_with fail
        go_meet
        exact ⟨k, v, hk, fun _ => HKK.out, hrq, HO, HMx, HA⟩
  case rest =>
    obtain ⟨kl, vl, hkl, hokl, hr5_1, HOl, HPx, HAl⟩ := hcut
    obtain ⟨y5, hwc⟩ : ∃ y : World, y = wc := ⟨_, rfl⟩
    rw [← hwc] at hr5_1 HOl HPx HAl ⊢
    clear hwc
    have HOKl := Lib.hid hokl
    clear hokl
    obtain ⟨al, cl, hvl⟩ := own_slice HOl.out
    subst hvl
    have hr5_0 := (HAl.out.block _ ⟨by have := lt_heap hr4_0; omega, by have := lt_heap hr4_0; omega, by have := lt_heap hr4_0; omega⟩ (lt_heap hr4_0)).trans hr4_0
    have hz5 := HAl.out.size
    have HU5 := Lib.hid (aft_of_sq HU4.out HAl.out (by omega) (by omega) (by omega) (by omega))
    have HP5 := HPx
    clear HPx
    have HLl5 := Lib.hid (show Lq (w.heap.size + 1) q 3 al kl (itV triE triV 3 ((tl, 10) : St)) y5 from ⟨by decide, rwp_own _ HOl.out (fun b h1 _ _ => ⟨by omega, by omega⟩)⟩)
    clear HOl HAl
    clear hr4_0 hr4_1 HU4 HP4
    have c1_0 := cell_of_row _ _ 0 _ _ _ hr5_1
    have c1_1 := cell_of_row _ _ 1 _ _ _ hr5_1
    have c1_2 := cell_of_row _ _ 2 _ _ _ hr5_1
    simp at c1_0 c1_1 c1_2
    have hHr := Lib.hid hr5_0
    have hHi := Lib.hid (show (Try.prog.info? 24).map (·.size) = some (#[.int .i64 (x1 : Int), .int .i64 (x2 : Int), .slice al kl cl] : Array Value).size by kernel_rfl)
    have hHz := Lib.hid (show (#[.int .i64 0, .int .i64 0, .slice none 0 0] : Array Value).size = (#[.int .i64 (x1 : Int), .int .i64 (x2 : Int), .slice al kl cl] : Array Value).size from rfl)
    have hHo := Lib.hid (show (#[.int .i64 (x1 : Int), .int .i64 (x2 : Int), .slice al kl cl] : Array Value).all (·.oneCell') = true by simp [Value.oneCell'])
    go_wp2_with (first | (refine Au.wpList_store_row rfl 24 (.tmp 2) (.tmp 51) rfl y5 #[.int .i64 0, .int .i64 0, .slice none 0 0] #[.int .i64 (x1 : Int), .int .i64 (x2 : Int), .slice al kl cl] (w.heap.size) 24 hHr.out rfl rfl hHi.out hHz.out hHo.out ?_))
    clear c1_0 c1_1 c1_2
    clear hHr hHi hHz hHo
    have hN := setRow_heap _ (w.heap.size) _ #[.int .i64 (x1 : Int), .int .i64 (x2 : Int), .slice al kl cl] _ _ hr5_0
    have hsz := HU5.out.size
    have HUx := aft_setRow (k := w.heap.size) HU5.out (by omega) (by omega) #[.int .i64 (x1 : Int), .int .i64 (x2 : Int), .slice al kl cl]
    have hPx := mat_setRow (k := w.heap.size) HP5.out (by omega) #[.int .i64 (x1 : Int), .int .i64 (x2 : Int), .slice al kl cl]
    have hO : ∀ kk, kk ≠ w.heap.size → (y5.setRow (w.heap.size) #[.int .i64 (x1 : Int), .int .i64 (x2 : Int), .slice al kl cl]).heap[kk]? = y5.heap[kk]? := fun kk hk => setRow_other _ _ _ _ hk
    obtain ⟨y6, hy6⟩ : ∃ y, y5.setRow (w.heap.size) #[.int .i64 (x1 : Int), .int .i64 (x2 : Int), .slice al kl cl] = y := ⟨_, rfl⟩
    rw [hy6] at hN HUx hO hPx ⊢
    clear hy6 hsz
    have HU6 := Lib.hid HUx
    clear HUx
    have HP6 := Lib.hid hPx
    have hz6 := HU6.out.size
    have hr6_0 := hN
    have hr6_1 := (hO _ (by omega)).trans hr5_1
    have YL := Lib.hid ((Lq.heap (w' := y6) HLl5.out (fun k h => hO k (by omega))).low (b2 := w.heap.size) (by omega))
    clear hN hO
    clear hr5_0 hr5_1 HU5
    have c0_0 := cell_of_row _ _ 0 _ _ _ hr6_0
    have c0_1 := cell_of_row _ _ 1 _ _ _ hr6_0
    have c0_2 := cell_of_row _ _ 2 _ _ _ hr6_0
    simp at c0_0 c0_1 c0_2
    go_wp2
    have eW : (x1 : Int) = szW s := by rw [HX1.out]; rfl
    have eH : (x2 : Int) = szH s := by rw [HX2.out]; rfl
    have hno : ¬ okSz (szW s) (szH s) := by rw [← eW, ← eH]; exact of_decide_eq_false HOK.out
    have eS : szS s = ((tl, 10) : St) := by
      unfold szS
      rw [← HT.out, if_neg hno]; rfl
    have eT : itS triE ((tl, 10) : St) n = fT0 s := by unfold fT0; rw [eS, it_stay tri_keep (by simp), it_stay tri_keep (by simp)]
    have eN : (fT0 s).2 ≠ 0 := by rw [← eT, it_stay tri_keep (by simp)]; simp
    exact bodyPost_ret (v := .agg #[.int .i64 (x1 : Int), .int .i64 (x2 : Int), .slice al kl cl]) (by simp [results, Try.results43, go_sem, c0_0, c0_1, c0_2]) rfl ⟨⟨al, kl, cl, by rw [eW, eH], by rw [eS]; exact YL.out, fun h => absurd h eN⟩, by rw [← eT]; exact HP6.out, HU6.out⟩

set_option maxHeartbeats 16000000 in
set_option maxRecDepth 100000 in
theorem take_ok (g N : Nat) (ba : Option Addr) (bn bc : Nat) (lb : List UInt8) (s : St) (w : World) (hw : MAt g N ba bn bc lb s w) (h0 : (szT s).2 = 0) (hok : okSz (szW s) (szH s)) : Calls Try.prog 43 #[.pointer (some ⟨g, 0, none⟩)] w fun e' w' => (∃ (a : Option Addr) (k c : Nat), e' = .returned (.agg #[.int .i64 (szW s), .int .i64 (szH s), .slice a k c]) ∧ RwP (fun b => w.heap.size ≤ b) 3 w' a k (itV triE triV 3 (szS s)) ∧ ((fT0 s).2 = 0 → k = fN s)) ∧ MAt g N ba bn bc lb (fT0 s) w' ∧ Aft g w.heap.size w w' := by
  have HPw := Lib.hid hw
  have hg : g < w.heap.size := hw.err.2.2.2
  clear hw
  obtain ⟨t, ht⟩ : ∃ t, t = szT s := ⟨_, rfl⟩
  rw [← ht] at h0
  have HT := Lib.hid ht
  clear ht
  obtain ⟨x1, hx1⟩ : ∃ x, x = (numS s 2).1 := ⟨_, rfl⟩
  obtain ⟨x2, hx2⟩ : ∃ x, x = (numS (numS s 2).2 2).1 := ⟨_, rfl⟩
  have lx1 : x1 < 65536 := by rw [hx1]; exact numS_lt s 2
  have lx2 : x2 < 65536 := by rw [hx2]; exact numS_lt _ 2
  have HX1 := Lib.hid hx1
  have HX2 := Lib.hid hx2
  clear hx1 hx2
  have hc1 : IntKind.i64.wrap (x1 : Int) = x1 := by rw [IntKind.wrap_i64]; omega
  have hc2 : IntKind.i64.wrap (x2 : Int) = x2 := by rw [IntKind.wrap_i64]; omega
  obtain ⟨n, hn⟩ : ∃ n, n = x1 * x2 := ⟨_, rfl⟩
  have hn4 : n ≤ 4294836225 := by rw [hn]; exact Nat.mul_le_mul (show x1 ≤ 65535 by omega) (show x2 ≤ 65535 by omega)
  have hnz : (x1 : Int) * x2 = n := by rw [hn]; simp
  have hw1 : IntKind.i64.wrap ((x1 : Int) * x2) = n := by rw [hnz, IntKind.wrap_i64]; omega
  have hw2 : wrap64 ((x1 : Int) * x2) = n := by rw [hnz]; unfold wrap64; omega
  have HN_ := Lib.hid hn
  have HNZ := Lib.hid hnz
  clear hn hnz
  have HOK := Lib.hid (show decide (okSz (x1 : Int) (x2 : Int)) = true by rw [HX1.out, HX2.out]; exact decide_eq_true hok)
  clear hok
  go_enter Try.func43, Try.ntmps43
  go_upto_region 1 with fail
  have hR := Au.rows1 w (.cells #[.int .i64 0, .int .i64 0, .slice none 0 0] 24)
  have HUx := Ve.below_n1 w (.cells #[.int .i64 0, .int .i64 0, .slice none 0 0] 24)
  obtain ⟨y0, hy0⟩ : ∃ y0, w.alloc (.cells #[.int .i64 0, .int .i64 0, .slice none 0 0] 24) = y0 := ⟨_, rfl⟩
  rw [hy0] at hR HUx ⊢
  clear hy0
  have HP0 := Lib.hid (HPw.out.new HUx)
  have hz0 := HUx.size
  have HU0 := Lib.hid (Aft.of (g := g) (base := w.heap.size) HUx)
  clear HUx
  have hr0_0 := hR
  clear hR
  have hlz := lt_heap hr0_0
  have c0_0 := cell_of_row _ _ 0 _ _ _ hr0_0
  have c0_1 := cell_of_row _ _ 1 _ _ _ hr0_0
  have c0_2 := cell_of_row _ _ 2 _ _ _ hr0_0
  simp at c0_0 c0_1 c0_2
  go_wp2_with fail
  refine ((show Calls _ _ _ _ (fun e w' => e = .returned (.int .u64 (x1 : Int)) ∧ MAt g N ba bn bc lb (numS s 2).2 w' ∧ Aft g _ _ w') from by rw [HX1.out]; exact mnum_any g N ba bn bc lb s 2 (by omega) _ HP0.out)).mono ?_
  rintro e y1 ⟨rfl, hp1, hb1⟩
  have HP1 := Lib.hid hp1
  have hz1 := hb1.size
  clear c0_0 c0_1 c0_2
  have hr1_0 := (hb1.block _ (lt_heap hr0_0) (lt_heap hr0_0) (by omega)).trans hr0_0
  have HU1 := Lib.hid (HU0.out.trans (hb1.mono HU0.out.size))
  clear hr0_0 HU0
  have c0_0 := cell_of_row _ _ 0 _ _ _ hr1_0
  have c0_1 := cell_of_row _ _ 1 _ _ _ hr1_0
  have c0_2 := cell_of_row _ _ 2 _ _ _ hr1_0
  simp at c0_0 c0_1 c0_2
  go_wp2_with fail
  refine ((show Calls _ _ _ _ (fun e w' => e = .returned (.int .u64 (x2 : Int)) ∧ MAt g N ba bn bc lb t w' ∧ Aft g _ _ w') from by rw [HX2.out, HT.out]; exact mnum_any g N ba bn bc lb (numS s 2).2 2 (by omega) _ HP1.out)).mono ?_
  rintro e y2 ⟨rfl, hp2, hb2⟩
  have HP2 := Lib.hid hp2
  have hz2 := hb2.size
  clear c0_0 c0_1 c0_2
  have hr2_0 := (hb2.block _ (lt_heap hr1_0) (lt_heap hr1_0) (by omega)).trans hr1_0
  have HU2 := Lib.hid (HU1.out.trans (hb2.mono HU1.out.size))
  clear hr1_0 HU1
  obtain ⟨he, hf, -, hgl⟩ := HP2.out.err
  obtain ⟨tl, te⟩ := t
  have h0 : te = 0 := h0
  subst h0
  have he : y2.cell? ⟨g, 2, none⟩ = some (.int .i64 0) := he
  go_wp2_with fail
  refine (drsize_any (x1 : Int) (x2 : Int) _).mono ?_
  rintro e ww ⟨rfl, hww⟩
  rw [hww, HOK.out]
  clear hww
  go_upto_region 6 with fail
  have hb3 := Ve.below_n1 y2 (.cells #[.int .i64 (x1 : Int), .int .i64 (x2 : Int), .slice none 0 0] 24)
  have hp3 := HP2.out.new hb3
  have hb3 := Aft.of (g := g) (base := y2.heap.size) hb3
  have hN := heap_alloc_last y2 (.cells #[.int .i64 (x1 : Int), .int .i64 (x2 : Int), .slice none 0 0] 24)
  obtain ⟨y3, hy3⟩ : ∃ y, y2.alloc (.cells #[.int .i64 (x1 : Int), .int .i64 (x2 : Int), .slice none 0 0] 24) = y := ⟨_, rfl⟩
  have hs3 : y3.heap.size = y2.heap.size + 1 := by rw [← hy3]; simp
  rw [hy3] at hb3 hN hp3 ⊢
  clear hy3
  have HP3 := Lib.hid hp3
  have hz3 := hb3.size
  have hl3_0 := lt_heap hr2_0
  have hr3_0 := (hb3.block _ (lt_heap hr2_0) (lt_heap hr2_0) (by omega)).trans hr2_0
  have HU3 := Lib.hid (HU2.out.trans (hb3.mono HU2.out.size))
  clear hr2_0 HU2
  have hr3_1 := hN
  clear hN
  obtain ⟨q, hq⟩ : ∃ q, q = y2.heap.size := ⟨_, rfl⟩
  have hqw : w.heap.size < q := by omega
  have hqg : g < q := by omega
  rw [← hq] at hr3_1 ⊢
  have hql := lt_heap hr3_1
  clear hq hs3
  try clear he hf
  obtain ⟨bl, hb_l⟩ : ∃ b, b = y3.heap.size := ⟨_, rfl⟩
  have hbql : q < bl := by rw [hb_l]; exact lt_heap hr3_1
  have hbgl : g < bl := by omega
  have hbel : bl ≤ y3.heap.size := by omega
  have hbfl : y3.heap.size ≤ bl := by omega
  clear hb_l
  go_upto_block 0 with fail
  go_cut [6] (fun i wx => ∃ (k : Nat) (v : Value), k ≤ n ∧ ((itS triE ((tl, 0) : St) n).2 = 0 → k = n) ∧ wx.heap[q]? = some (.cells #[.int .i64 (x1 : Int), .int .i64 (x2 : Int), v] 24 (0, 0)) ∧ Hid (wx.ownsRow bl 75 3 v k (flatc 3 (itV triE triV 3 ((tl, 0) : St)) k)) ∧ Hid (MAt g N ba bn bc lb (itS triE ((tl, 0) : St) n) wx) ∧ Hid (Aw (Sq bl q g) y3 wx))
  case first =>
    go_upto_region 7 with fail
    go_loopw [6] (fun i wr => ∃ (k : Nat) (v : Value), k ≤ n ∧ i = .int .i64 k ∧ wr.heap[q]? = some (.cells #[.int .i64 (x1 : Int), .int .i64 (x2 : Int), v] 24 (0, 0)) ∧ Hid (wr.ownsRow bl 75 3 v k (flatc 3 (itV triE triV 3 ((tl, 0) : St)) k)) ∧ Hid (MAt g N ba bn bc lb (itS triE ((tl, 0) : St) k) wr) ∧ Hid (Aw (Sq bl q g) y3 wr)) (fun i _ => n - (intOf i).toNat)
    case atStart => exact ⟨0, _, by omega, rfl, hr3_1, Lib.hid (by simpa [flatc] using World.ownsRow_nil _ _ _ _), HP3, Lib.hid (Aw.refl _ _)⟩
    case round =>
      obtain ⟨k, v, hk, rfl, hrq, HO, HM, HA⟩ := hrel
      have hsz := HA.out.size
      obtain ⟨s0, hs0⟩ : ∃ s : St, s = itS triE ((tl, 0) : St) k := ⟨_, rfl⟩
      rw [← hs0] at HM
      have HS0 := Lib.hid hs0
      clear hs0
      obtain ⟨he, hf, -, hgl⟩ := HM.out.err
      obtain ⟨te, hte⟩ : ∃ te, te = s0.2 := ⟨_, rfl⟩
      rw [← hte] at he
      have HTE := Lib.hid hte
      clear hte
      by_cases hlt : k < n
      · have hlt' : (k : Int) < n := by omega
        by_cases h0 : te = 0
        · subst h0
          obtain ⟨i0, hi, hz0, hz1, hz2⟩ := info_parts info_dhue
          obtain ⟨m0, hm0⟩ : ∃ x, x = triV s0 0 := ⟨_, rfl⟩
          obtain ⟨m1, hm1⟩ : ∃ x, x = triV s0 1 := ⟨_, rfl⟩
          obtain ⟨m2, hm2⟩ : ∃ x, x = triV s0 2 := ⟨_, rfl⟩
          have HX := Lib.hid (show flatc 3 (itV triE triV 3 ((tl, 0) : St)) (k + 1) = flatc 3 (itV triE triV 3 ((tl, 0) : St)) k ++ [.int .i64 m0, .int .i64 m1, .int .i64 m2] by rw [stp_hue, ← HS0.out, ← hm0, ← hm1, ← hm2])
          have HXV := Lib.hid (And.intro hm0 (And.intro hm1 hm2))
          clear hm0 hm1 hm2
          go_upto_region 9 with fail
          refine Ol.way_drew (S := fun y => y.heap[q]? = some (.cells #[.int .i64 (x1 : Int), .int .i64 (x2 : Int), v] 24 (0, 0))) (stop := 7) (by kernel_rfl) (hrq) (fun hS0 => ?_)
          obtain ⟨z0, hz0_⟩ : ∃ y, wr.drew = y := ⟨_, rfl⟩
          have HA0 := Lib.hid (show Aw (Sq bl q g) y3 z0 by rw [← hz0_]; exact HA.out.trans (Aw.of (Below.refl _ _).drew))
          have HO0 := Lib.hid (show z0.ownsRow bl 75 3 v k (flatc 3 (itV triE triV 3 ((tl, 0) : St)) k) by rw [← hz0_]; exact Ls.own_below HO.out (Below.refl _ _).drew)
          have HM0 := Lib.hid (show MAt g N ba bn bc lb s0 z0 by rw [← hz0_]; exact mat_drew HM.out)
          have hs0 : wr.heap.size ≤ z0.heap.size := by rw [← hz0_]; exact Nat.le_refl _
          rw [hz0_] at hS0 ⊢
          clear hz0_
          refine Ol.way_plain (i := 0) (v := ?_) rfl (by kernel_rfl) (by kernel_rfl) (by kernel_rfl) (fun _ _ _ h => h) (by decide) (Or.inl ⟨by kernel_rfl, by (intro wz _; go_simp; try with_reducible rfl)⟩) (Ol.on hS0) ?_
          go_simp
          refine Ol.way_take (i := 1) (v := ?_) rfl (by kernel_rfl) (by kernel_rfl) (by kernel_rfl) (fun _ _ _ h => h) (by decide) (by kernel_rfl) (by kernel_rfl) (Or.inl ⟨by kernel_rfl, by (intro wz hSz; have cq_ := cell_of_row _ _ 2 _ _ _ hSz; simp at cq_; go_simp; try with_reducible rfl)⟩) hS0 ?_
          go_simp
          refine Ol.way_plain (i := 2) (v := ?_) rfl (by kernel_rfl) (by kernel_rfl) (by kernel_rfl) (fun _ _ _ h => h) (by decide) (Or.inl ⟨by kernel_rfl, by (intro wz _; go_simp; try with_reducible rfl)⟩) (Ol.on hS0) ?_
          go_simp
          refine Ol.way_ready (rs := [3]) (by kernel_rfl) (by simp) ?_
          refine Ol.Each.cons rfl (fun K hK => ?_) Ol.Each.nil
          go_simp
          go_wp2_with (go_at_call 47; refine (show Calls _ _ _ _ (fun e w' => e = .returned (.agg #[.int .i64 m0, .int .i64 m1, .int .i64 m2]) ∧ MAt g N ba bn bc lb (triE s0) w' ∧ Aft g _ _ w') from by rw [HXV.out.1, HXV.out.2.1, HXV.out.2.2]; exact mvec_any g N ba bn bc lb s0 _ HM0.out).mono ?_; rintro e z1 ⟨rfl, hm1, ha1⟩)
          have HA1 := Lib.hid (HA0.out.trans (aw_aft ha1))
          have HO1 := Lib.hid (own_aft HO0.out ha1 (by omega))
          have HM1 := Lib.hid hm1
          have hs1 := ha1.size
          have hq1 := (ha1.block q (lt_heap hS0) (lt_heap hS0) (by omega)).trans hS0
          refine Ol.keep hK _ _ (hq1) (fun hS1 => ?_)
          clear hK K
          refine Ol.way_ready (rs := [4]) (by kernel_rfl) (by simp) ?_
          refine Ol.Each.cons rfl (fun K hK => ?_) Ol.Each.nil
          go_simp
          have hb2 := Ve.below_n1 z1 (.cells #[.int .i64 m0, .int .i64 m1, .int .i64 m2] 75)
          have hN2 := heap_alloc_last z1 (.cells #[.int .i64 m0, .int .i64 m1, .int .i64 m2] 75)
          obtain ⟨z2, hz2_⟩ : ∃ y, z1.alloc (.cells #[.int .i64 m0, .int .i64 m1, .int .i64 m2] 75) = y := ⟨_, rfl⟩
          rw [hz2_] at hb2 hN2 ⊢
          clear hz2_
          have HA2 := Lib.hid (HA1.out.trans (Aw.of hb2))
          have HO2 := Lib.hid (Ls.own_below HO1.out hb2)
          have HM2 := Lib.hid (HM1.out.on hb2)
          have hs2 := hb2.size
          refine Ol.keep hK _ _ ((hb2.block _ (lt_heap hS1)).trans hS1) (fun hS2 => ?_)
          clear hK K
          refine Ol.way_ready (rs := [5]) (by kernel_rfl) (by simp) ?_
          refine Ol.Each.cons rfl (fun K hK => ?_) Ol.Each.nil
          refine step_append_lies _ rfl _ _ 22 rfl bl 75 i0 (.agg #[.int .i64 0, .int .i64 0, .int .i64 0]) 3 24 Try.underlying22 hi hz0 hz1 hz2 rfl (by decide) _ _ _ rfl HO2.out ⟨z1.heap.size, 0, none⟩ 1 1 [.int .i64 m0, .int .i64 m1, .int .i64 m2] rfl rfl ?c1 ?c2 (by omega) ?c3 ?c4 ?c5 _ rfl ?_
          case c1 => exact World.news_of_block hN2
          case c2 => intro u hu; simp at hu; rcases hu with rfl | rfl | rfl <;> rfl
          case c3 => unfold maxLen; omega
          case c4 => omega
          case c5 => omega
          intro g9 cg z3 hown hgrow hgk hlt2
          have hqo := fun r hr => (HO2.out.lt r hr).1
          have HA3 := Lib.hid (HA2.out.step hgrow (fun r hr => by have := hqo r hr; omega))
          rw [← HX.out] at hown
          have hqn : q ≠ g9 := by rcases hgk with h | h <;> first | omega | (have := hqo _ h; omega)
          have hq3 := (hgrow.block q (lt_heap hS2) (fun e => by have := hqo _ e.symm; omega)).trans hS2
          have hs3 := hgrow.size
          have HM3 := Lib.hid (mat_near HM2.out ((Below.refl (g + 1) _).grown hgrow (by omega) (fun r hr => by have := hqo r hr; omega)))
          refine Ol.keep hK _ _ (hq3) (fun hS3 => ?_)
          clear hK K
          refine Ol.way_plain (i := 6) (v := ?_) rfl (by kernel_rfl) (by kernel_rfl) (by kernel_rfl) (fun _ _ _ h => h) (by decide) (Or.inl ⟨by kernel_rfl, by (intro wz _; go_simp; try with_reducible rfl)⟩) (Ol.on hS3) ?_
          go_simp
          refine Ol.way_ready (rs := [7]) (by kernel_rfl) (by simp) ?_
          refine Ol.Each.cons rfl (fun K hK => ?_) Ol.Each.nil
          have p0 := cell_of_row _ _ 2 _ _ _ hq3
          simp at p0
          have fz : ∀ j, z3.frozen? ⟨q, j, none⟩ = false := fun j => by simp [World.frozen?, hq3]
          go_simp
          clear fz p0
          have hN : (z3.setCell ⟨q, 2, none⟩ (.slice (some ⟨g9, 0, none⟩) (k + 1) cg)).heap[q]? = some (.cells #[.int .i64 (x1 : Int), .int .i64 (x2 : Int), .slice (some ⟨g9, 0, none⟩) (k + 1) cg] 24 (0, 0)) := heap_setCell_same _ _ 2 _ _ _ hq3
          have HA4 := Lib.hid (HA3.out.set (b := q) (fun h => h.2.1 rfl) 2 (.slice (some ⟨g9, 0, none⟩) (k + 1) cg))
          have HM4 := Lib.hid (show MAt g N ba bn bc lb (itS triE ((tl, 0) : St) (k + 1)) (z3.setCell ⟨q, 2, none⟩ (.slice (some ⟨g9, 0, none⟩) (k + 1) cg)) by show MAt g N ba bn bc lb (triE (itS triE ((tl, 0) : St) k)) _; rw [← HS0.out]; exact HM3.out.setFar (by omega) _ _)
          have HO4 := Lib.hid (own_via (w' := (z3.setCell ⟨q, 2, none⟩ (.slice (some ⟨g9, 0, none⟩) (k + 1) cg))) hown (fun r hr => Below.heap_setCell _ _ _ _ (by simp [Value.ownBlock] at hr; show r ≠ q; omega)))
          refine Ol.past hK (by kernel_rfl) _ _ ?_
          clear hK K
          refine Ol.way_done (by kernel_rfl) ?_ _
          go_wp2
          go_roundw
          case rel => exact ⟨k + 1, _, by omega, by go_num, hN, HO4, HM4, HA4⟩
          case measure => simp [intOf]; omega
        · have d1 : (te == 0) = false := by simpa using h0
          have d2 := decide_eq_false h0
          have hkp : itS triE ((tl, 0) : St) n = s0 := by rw [it_stop tri_keep (k := k) (by rw [← HS0.out, ← HTE.out]; exact h0) n hk]; exact HS0.out.symm
          have hkn : (itS triE ((tl, 0) : St) n).2 ≠ 0 := by rw [hkp, ← HTE.out]; exact h0
          have HMx := Lib.hid (show MAt g N ba bn bc lb (itS triE ((tl, 0) : St) n) wr by rw [hkp]; exact HM.out)
          have HKN := Lib.hid hkn
          clear hkp hkn
          go_wp2_with fail
          go_meet
          exact ⟨k, v, hk, fun h => absurd h HKN.out, hrq, HO, HMx, HA⟩
      · have HKK := Lib.hid (show k = n by omega)
        have hge : ¬ (k : Int) < n := by omega
        clear hlt
        have HMx := Lib.hid (show MAt g N ba bn bc lb (itS triE ((tl, 0) : St) n) wr by rw [← HKK.out, ← HS0.out]; exact HM.out)
        go_wp2_with fail
        go_meet
        exact ⟨k, v, hk, fun _ => HKK.out, hrq, HO, HMx, HA⟩
  case rest =>
    obtain ⟨kl, vl, hkl, hokl, hr4_1, HOl, HPx, HAl⟩ := hcut
    obtain ⟨y4, hwc⟩ : ∃ y : World, y = wc := ⟨_, rfl⟩
    rw [← hwc] at hr4_1 HOl HPx HAl ⊢
    clear hwc
    have HOKl := Lib.hid hokl
    clear hokl
    obtain ⟨al, cl, hvl⟩ := own_slice HOl.out
    subst hvl
    have hr4_0 := (HAl.out.block _ ⟨by have := lt_heap hr3_0; omega, by have := lt_heap hr3_0; omega, by have := lt_heap hr3_0; omega⟩ (lt_heap hr3_0)).trans hr3_0
    have hz4 := HAl.out.size
    have HU4 := Lib.hid (aft_of_sq HU3.out HAl.out (by omega) (by omega) (by omega) (by omega))
    have HP4 := HPx
    clear HPx
    have HLl4 := Lib.hid (show Lq (w.heap.size + 1) q 3 al kl (itV triE triV 3 ((tl, 0) : St)) y4 from ⟨by decide, rwp_own _ HOl.out (fun b h1 _ _ => ⟨by omega, by omega⟩)⟩)
    clear HOl HAl
    clear hr3_0 hr3_1 HU3 HP3
    have c1_0 := cell_of_row _ _ 0 _ _ _ hr4_1
    have c1_1 := cell_of_row _ _ 1 _ _ _ hr4_1
    have c1_2 := cell_of_row _ _ 2 _ _ _ hr4_1
    simp at c1_0 c1_1 c1_2
    have hHr := Lib.hid hr4_0
    have hHi := Lib.hid (show (Try.prog.info? 24).map (·.size) = some (#[.int .i64 (x1 : Int), .int .i64 (x2 : Int), .slice al kl cl] : Array Value).size by kernel_rfl)
    have hHz := Lib.hid (show (#[.int .i64 0, .int .i64 0, .slice none 0 0] : Array Value).size = (#[.int .i64 (x1 : Int), .int .i64 (x2 : Int), .slice al kl cl] : Array Value).size from rfl)
    have hHo := Lib.hid (show (#[.int .i64 (x1 : Int), .int .i64 (x2 : Int), .slice al kl cl] : Array Value).all (·.oneCell') = true by simp [Value.oneCell'])
    go_wp2_with (first | (refine Au.wpList_store_row rfl 24 (.tmp 2) (.tmp 51) rfl y4 #[.int .i64 0, .int .i64 0, .slice none 0 0] #[.int .i64 (x1 : Int), .int .i64 (x2 : Int), .slice al kl cl] (w.heap.size) 24 hHr.out rfl rfl hHi.out hHz.out hHo.out ?_))
    clear c1_0 c1_1 c1_2
    clear hHr hHi hHz hHo
    have hN := setRow_heap _ (w.heap.size) _ #[.int .i64 (x1 : Int), .int .i64 (x2 : Int), .slice al kl cl] _ _ hr4_0
    have hsz := HU4.out.size
    have HUx := aft_setRow (k := w.heap.size) HU4.out (by omega) (by omega) #[.int .i64 (x1 : Int), .int .i64 (x2 : Int), .slice al kl cl]
    have hPx := mat_setRow (k := w.heap.size) HP4.out (by omega) #[.int .i64 (x1 : Int), .int .i64 (x2 : Int), .slice al kl cl]
    have hO : ∀ kk, kk ≠ w.heap.size → (y4.setRow (w.heap.size) #[.int .i64 (x1 : Int), .int .i64 (x2 : Int), .slice al kl cl]).heap[kk]? = y4.heap[kk]? := fun kk hk => setRow_other _ _ _ _ hk
    obtain ⟨y5, hy5⟩ : ∃ y, y4.setRow (w.heap.size) #[.int .i64 (x1 : Int), .int .i64 (x2 : Int), .slice al kl cl] = y := ⟨_, rfl⟩
    rw [hy5] at hN HUx hO hPx ⊢
    clear hy5 hsz
    have HU5 := Lib.hid HUx
    clear HUx
    have HP5 := Lib.hid hPx
    have hz5 := HU5.out.size
    have hr5_0 := hN
    have hr5_1 := (hO _ (by omega)).trans hr4_1
    have YL := Lib.hid ((Lq.heap (w' := y5) HLl4.out (fun k h => hO k (by omega))).low (b2 := w.heap.size) (by omega))
    clear hN hO
    clear hr4_0 hr4_1 HU4
    have c0_0 := cell_of_row _ _ 0 _ _ _ hr5_0
    have c0_1 := cell_of_row _ _ 1 _ _ _ hr5_0
    have c0_2 := cell_of_row _ _ 2 _ _ _ hr5_0
    simp at c0_0 c0_1 c0_2
    go_wp2
    have eW : (x1 : Int) = szW s := by rw [HX1.out]; rfl
    have eH : (x2 : Int) = szH s := by rw [HX2.out]; rfl
    have hyes : okSz (szW s) (szH s) := by rw [← eW, ← eH]; exact of_decide_eq_true HOK.out
    have eS : szS s = ((tl, 0) : St) := by
      unfold szS
      rw [← HT.out, if_pos hyes]
    have eF : fN s = n := by unfold fN fW fH; rw [if_pos hyes, if_pos hyes, ← eW, ← eH, HNZ.out]; simp
    have eT : itS triE ((tl, 0) : St) n = fT0 s := by unfold fT0; rw [eS, eF]
    exact bodyPost_ret (v := .agg #[.int .i64 (x1 : Int), .int .i64 (x2 : Int), .slice al kl cl]) (by simp [results, Try.results43, go_sem, c0_0, c0_1, c0_2]) rfl ⟨⟨al, kl, cl, by rw [eW, eH], by rw [eS]; exact YL.out, fun h => by
        have hkn := HOKl.out (by rw [eT]; exact h)
        rw [hkn, eF]⟩, by rw [← eT]; exact HP5.out, HU5.out⟩

theorem take_any (g N : Nat) (ba : Option Addr) (bn bc : Nat) (lb : List UInt8) (s : St) (w : World) (hw : MAt g N ba bn bc lb s w) :
    Calls Try.prog 43 #[.pointer (some ⟨g, 0, none⟩)] w fun e' w' => (∃ (a : Option Addr) (k c : Nat), e' = .returned (.agg #[.int .i64 (szW s), .int .i64 (szH s), .slice a k c]) ∧ RwP (fun b => w.heap.size ≤ b) 3 w' a k (itV triE triV 3 (szS s)) ∧ ((fT0 s).2 = 0 → k = fN s)) ∧ MAt g N ba bn bc lb (fT0 s) w' ∧ Aft g w.heap.size w w' := by
  by_cases h0 : (szT s).2 = 0
  · by_cases hok : okSz (szW s) (szH s)
    · exact take_ok g N ba bn bc lb s w hw h0 hok
    · exact take_bad g N ba bn bc lb s w hw h0 hok
  · exact take_err g N ba bn bc lb s w hw h0

end Go.Proofs.Ytgkfoiekminfmaa.Fm
