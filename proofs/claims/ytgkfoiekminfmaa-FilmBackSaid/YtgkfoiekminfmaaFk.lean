/- Films, sheets, read off a reader, by the program: a sheet, a film. -/
import Derived.Test.YtgkfoiekminfmaaFj
import Derived.Test.YtgkfoiekminfmaaRr
namespace Go.Proofs.Ytgkfoiekminfmaa.Fm
open Go Go.RowKit Go.Proofs.Ytgkfoiekminfmaa Go.Proofs.Ytgkfoiekminfmaa.Rp Go.Proofs.Ytgkfoiekminfmaa.Re Go.Proofs.Ytgkfoiekminfmaa.Au
set_option linter.unusedVariables false
set_option linter.unusedSimpArgs false

theorem pix_nil (w : World) : Calls Try.prog 15 #[.agg #[.int .i64 0, .int .i64 0]] w fun e w' => e = .returned (.int .i64 0) ∧ Below w.heap.size w w' := by
  have hz : IntKind.i64.wrap ((0 : Int) * 0) = 0 := rfl
  have hw2 : wrap64 ((0 : Int) * 0) = 0 := by simp [wrap64]
  have HB := Lib.hid (Ve.below_n1 w (.cells #[.int .i64 0, .int .i64 0] 32))
  go_enter Try.func15, Try.ntmps15
  go_wp2_with fail
  go_quiet (fail)
  go_wp2
  go_ret
  exact ⟨rfl, below_drewQ HB.out _⟩

/-- what a film's size is read as, and how many pixels -/
def fW (s : St) : Int := if okSz (szW s) (szH s) then szW s else 0
def fH (s : St) : Int := if okSz (szW s) (szH s) then szH s else 0
def fN (s : St) : Nat := (fW s * fH s).toNat

theorem fN_is (s : St) : (fN s : Int) = fW s * fH s ∧ fN s ≤ 4096 := by
  unfold fN fW fH
  by_cases h : okSz (szW s) (szH s)
  · rw [if_pos h, if_pos h]
    have := okSz_mul h
    omega
  · rw [if_neg h, if_neg h]; decide

theorem fsize (g : Nat) {B : Nat} (s : St) (w : World) (hw : RP (.pointer (some ⟨g, 0, none⟩)) g B s w) (hg : g < w.heap.size) (hB : B ≤ w.heap.size) : Calls Try.prog 57 #[.agg #[.pointer (some ⟨g, 0, none⟩)]] w fun e' w' => e' = .returned (.agg #[.int .i64 (fW s), .int .i64 (fH s)]) ∧ RP (.pointer (some ⟨g, 0, none⟩)) g B (szS s) w' ∧ Aft g w.heap.size w w' := by
  refine (fsize_any g s w hw hg hB).mono ?_
  rintro e w' ⟨⟨W, H, rfl, h⟩, h2, h3⟩
  refine ⟨?_, h2, h3⟩
  unfold fW fH
  rcases h with ⟨h, rfl, rfl⟩ | ⟨h, rfl, rfl⟩
  · rw [if_pos h, if_pos h]
  · rw [if_neg h, if_neg h]

theorem pixf (s : St) (w : World) : Calls Try.prog 15 #[.agg #[.int .i64 (fW s), .int .i64 (fH s)]] w fun e w' => e = .returned (.int .i64 (fN s : Int)) ∧ Below w.heap.size w w' := by
  rw [(fN_is s).1]
  unfold fW fH
  by_cases h : okSz (szW s) (szH s)
  · rw [if_pos h, if_pos h]; exact pix_ok _ _ h w
  · rw [if_neg h, if_neg h]; exact pix_nil w

theorem as_read {fn : FuncId} {args : Array Value} {r : Value} {w : World} {p : Value} {g B : Nat} {s : St} (h : Calls Try.prog fn args w fun e w' => e = .returned r ∧ Below w.heap.size w w') (hp : RP p g B s w) :
    Calls Try.prog fn args w fun e w' => e = .returned r ∧ RP p g B s w' ∧ Aft g w.heap.size w w' :=
  h.mono fun _ _ ⟨h1, h2⟩ => ⟨h1, hp.new h2, Aft.of h2⟩

/-- a row that was read: from block lo on, and not in block q -/
def Lq (lo q c : Nat) (a : Option Addr) (n : Nat) (L : Nat → Int) (w : World) : Prop := 0 < c ∧ RwP (fun b => lo ≤ b ∧ b ≠ q) c w a n L

theorem Lq.aft {lo q c g : Nat} {a : Option Addr} {n : Nat} {L : Nat → Int} {w w' : World} (h : Lq lo q c a n L w) (ha : Aft g w.heap.size w w') (hg : g < lo) : Lq lo q c a n L w' :=
  ⟨h.1, ((h.2.lt h.1).keep (fun b hb => ha.block b hb.2 hb.2 (by omega))).weak (fun b hb => hb.1)⟩

theorem Lq.heap {lo q c : Nat} {a : Option Addr} {n : Nat} {L : Nat → Int} {w w' : World} (h : Lq lo q c a n L w) (hk : ∀ k, (lo ≤ k ∧ k ≠ q) → w'.heap[k]? = w.heap[k]?) : Lq lo q c a n L w' := ⟨h.1, h.2.keep hk⟩

theorem Lq.low {lo q c b2 : Nat} {a : Option Addr} {n : Nat} {L : Nat → Int} {w : World} (h : Lq lo q c a n L w) (hb : b2 ≤ lo) : RwP (fun b => b2 ≤ b) c w a n L := h.2.weak fun b hb2 => by omega

theorem lq_of {lo q c m : Nat} {a : Option Addr} {n : Nat} {L : Nat → Int} {w : World} (h : RwP (fun b => m ≤ b) c w a n L) (hc : 0 < c) (hlo : lo ≤ m) (hq : q < m ∨ w.heap.size ≤ q) : Lq lo q c a n L w := ⟨hc, (h.lt hc).weak fun b hb => by omega⟩

set_option maxHeartbeats 8000000 in
set_option maxRecDepth 100000 in
theorem fsheet (g : Nat) {B : Nat} (s : St) (w : World) (hw : RP (.pointer (some ⟨g, 0, none⟩)) g B s w) (hg : g < w.heap.size) (hB : B ≤ w.heap.size) : Calls Try.prog 41 #[.agg #[.pointer (some ⟨g, 0, none⟩)]] w fun e' w' => (∃ a c, e' = .returned (.agg #[.int .i64 (fW s), .int .i64 (fH s), .slice a (fN s) c]) ∧ RwP (fun b => w.heap.size ≤ b) 3 w' a (fN s) (itV triE triV 3 (szS s))) ∧ RP (.pointer (some ⟨g, 0, none⟩)) g B (itS triE (szS s) (fN s)) w' ∧ Aft g w.heap.size w w' := by
  have HPw := Lib.hid hw
  clear hw
  obtain ⟨W, hW⟩ : ∃ W, W = fW s := ⟨_, rfl⟩
  obtain ⟨H, hH⟩ : ∃ H, H = fH s := ⟨_, rfl⟩
  obtain ⟨n, hn⟩ : ∃ n, n = fN s := ⟨_, rfl⟩
  obtain ⟨t, ht⟩ : ∃ t, t = szS s := ⟨_, rfl⟩
  have hn5 : n ≤ 4096 := by rw [hn]; exact (fN_is s).2
  rw [← hW, ← hH, ← hn, ← ht]
  have HW := Lib.hid hW
  have HH := Lib.hid hH
  have HN_ := Lib.hid hn
  have HT := Lib.hid ht
  clear hW hH hn ht
  go_enter Try.func41, Try.ntmps41
  go_upto_region 1 with fail
  have hR := Au.rows2 w (.cells #[.pointer (some ⟨g, 0, none⟩)] 92) (.cells #[.int .i64 0, .int .i64 0, .slice none 0 0] 35)
  have HUx := Ve.below_n2 w (.cells #[.pointer (some ⟨g, 0, none⟩)] 92) (.cells #[.int .i64 0, .int .i64 0, .slice none 0 0] 35)
  obtain ⟨y0, hy0⟩ : ∃ y0, (w.alloc (.cells #[.pointer (some ⟨g, 0, none⟩)] 92)).alloc (.cells #[.int .i64 0, .int .i64 0, .slice none 0 0] 35) = y0 := ⟨_, rfl⟩
  rw [hy0] at hR HUx ⊢
  clear hy0
  have HP0 := Lib.hid (HPw.out.new HUx)
  have hz0 := HUx.size
  have HU0 := Lib.hid (Aft.of (g := g) (base := w.heap.size) HUx)
  clear HUx
  obtain ⟨hr0_0, hr0_1⟩ := hR
  have c0_0 := cell_of_row _ _ 0 _ _ _ hr0_0
  simp at c0_0
  go_wp2_with fail
  refine ((show Calls _ _ _ _ (fun e w' => e = .returned (.agg #[.int .i64 W, .int .i64 H]) ∧ RP (.pointer (some ⟨g, 0, none⟩)) g B t w' ∧ Aft g _ _ w') from by rw [HW.out, HH.out, HT.out]; exact fsize g s _ HP0.out (by omega) (by omega))).mono ?_
  rintro e y1 ⟨rfl, hp1, hb1⟩
  have HP1 := Lib.hid hp1
  have hz1 := hb1.size
  clear c0_0
  have hr1_0 := (hb1.block _ (lt_heap hr0_0) (lt_heap hr0_0) (by omega)).trans hr0_0
  have hr1_1 := (hb1.block _ (lt_heap hr0_1) (lt_heap hr0_1) (by omega)).trans hr0_1
  have HU1 := Lib.hid (HU0.out.trans (hb1.mono HU0.out.size))
  clear hr0_0 hr0_1 HU0
  go_upto_region 2 with fail
  have hb2 := Ve.below_n1 y1 (.cells #[.int .i64 W, .int .i64 H, .slice none 0 0] 35)
  have hp2 := HP1.out.new hb2
  have hb2 := Aft.of (g := g) (base := y1.heap.size) hb2
  have hN := heap_alloc_last y1 (.cells #[.int .i64 W, .int .i64 H, .slice none 0 0] 35)
  obtain ⟨y2, hy2⟩ : ∃ y, y1.alloc (.cells #[.int .i64 W, .int .i64 H, .slice none 0 0] 35) = y := ⟨_, rfl⟩
  have hs2 : y2.heap.size = y1.heap.size + 1 := by rw [← hy2]; simp
  rw [hy2] at hb2 hN hp2 ⊢
  clear hy2
  have HP2 := Lib.hid hp2
  have hz2 := hb2.size
  have hl2_0 := lt_heap hr1_0
  have hl2_1 := lt_heap hr1_1
  have hr2_0 := (hb2.block _ (lt_heap hr1_0) (lt_heap hr1_0) (by omega)).trans hr1_0
  have hr2_1 := (hb2.block _ (lt_heap hr1_1) (lt_heap hr1_1) (by omega)).trans hr1_1
  have HU2 := Lib.hid (HU1.out.trans (hb2.mono HU1.out.size))
  clear hr1_0 hr1_1 HU1
  have hr2_2 := hN
  clear hN
  obtain ⟨q, hq⟩ : ∃ q, q = y1.heap.size := ⟨_, rfl⟩
  rw [← hq] at hr2_2 ⊢
  have hqw : w.heap.size + 1 < q := by have := lt_heap hr2_1; omega
  have hql := lt_heap hr2_2
  clear hq hs2
  refine Ol.way_drew (S := fun y => y.heap[w.heap.size]? = some (.cells #[.pointer (some ⟨g, 0, none⟩)] 92 (0, 0)) ∧ y.heap[q]? = some (.cells #[.int .i64 W, .int .i64 H, .slice none 0 0] 35 (0, 0))) (stop := 8) (by kernel_rfl) (⟨hr2_0, hr2_2⟩) (fun hS0 => ?_)
  obtain ⟨y3, hy3⟩ : ∃ y, y2.drew = y := ⟨_, rfl⟩
  have HU3 := Lib.hid (show Aft g w.heap.size w y3 by rw [← hy3]; exact HU2.out.drew)
  have HP3 := Lib.hid (show RP (.pointer (some ⟨g, 0, none⟩)) g B _ y3 by rw [← hy3]; exact rp_drew HP2.out)
  have hz3 := HU3.out.size
  have hr3_0 : y3.heap[w.heap.size]? = some (.cells #[.pointer (some ⟨g, 0, none⟩)] 92 (0, 0)) := by rw [← hy3]; exact hr2_0
  have hr3_1 : y3.heap[w.heap.size + 1]? = some (.cells #[.int .i64 0, .int .i64 0, .slice none 0 0] 35 (0, 0)) := by rw [← hy3]; exact hr2_1
  have hr3_2 : y3.heap[q]? = some (.cells #[.int .i64 W, .int .i64 H, .slice none 0 0] 35 (0, 0)) := by rw [← hy3]; exact hr2_2
  have hl3_0 := lt_heap hr3_0
  have hl3_1 := lt_heap hr3_1
  have hl3_2 := lt_heap hr3_2
  rw [hy3] at hS0 ⊢
  clear hy3
  refine Ol.way_plain (i := 0) (v := ?_) rfl (by kernel_rfl) (by kernel_rfl) (by kernel_rfl) (fun _ _ _ h => h) (by decide) (Or.inl ⟨by kernel_rfl, by (intro wz _; go_simp; try with_reducible rfl)⟩) (Ol.on hS0) ?_
  go_simp
  refine Ol.way_take (i := 1) (v := ?_) rfl (by kernel_rfl) (by kernel_rfl) (by kernel_rfl) (fun _ _ _ h => h) (by decide) (by kernel_rfl) (by kernel_rfl) (Or.inl ⟨by kernel_rfl, by (intro wz hSz; have c0_0 := cell_of_row _ _ 0 _ _ _ hSz.1; have c2_0 := cell_of_row _ _ 0 _ _ _ hSz.2; have c2_1 := cell_of_row _ _ 1 _ _ _ hSz.2; have c2_2 := cell_of_row _ _ 2 _ _ _ hSz.2; simp at c0_0 c2_0 c2_1 c2_2; go_simp; try with_reducible rfl)⟩) hS0 ?_
  go_simp
  refine Ol.way_plain (i := 3) (v := ?_) rfl (by kernel_rfl) (by kernel_rfl) (by kernel_rfl) (fun _ _ _ h => h) (by decide) (Or.inl ⟨by kernel_rfl, by (intro wz _; go_simp; try with_reducible rfl)⟩) (Ol.on hS0) ?_
  go_simp
  refine Ol.way_take (i := 4) (v := ?_) rfl (by kernel_rfl) (by kernel_rfl) (by kernel_rfl) (fun _ _ _ h => h) (by decide) (by kernel_rfl) (by kernel_rfl) (Or.inl ⟨by kernel_rfl, by (intro wz hSz; have c0_0 := cell_of_row _ _ 0 _ _ _ hSz.1; have c2_0 := cell_of_row _ _ 0 _ _ _ hSz.2; have c2_1 := cell_of_row _ _ 1 _ _ _ hSz.2; have c2_2 := cell_of_row _ _ 2 _ _ _ hSz.2; simp at c0_0 c2_0 c2_1 c2_2; go_simp; try with_reducible rfl)⟩) hS0 ?_
  go_simp
  refine Ol.way_plain (i := 5) (v := ?_) rfl (by kernel_rfl) (by kernel_rfl) (by kernel_rfl) (fun _ _ _ h => h) (by decide) (Or.inl ⟨by kernel_rfl, by (intro wz _; go_simp; try with_reducible rfl)⟩) (Ol.on hS0) ?_
  go_simp
  refine Ol.way_ready (rs := [2]) (by kernel_rfl) (by simp) ?_
  refine Ol.Each.cons rfl (fun K hK => ?_) Ol.Each.nil
  go_simp
  go_wp2_with (go_at_call 15; refine (as_read (show Calls _ _ _ _ (fun e w' => e = .returned (.int .i64 (n : Int)) ∧ Below _ _ w') from by rw [HN_.out, HW.out, HH.out]; exact pixf s _) HP3.out).mono ?_; rintro e y4 ⟨rfl, hp4, hb4⟩)
  have HP4 := Lib.hid hp4
  have hz4 := hb4.size
  have hr4_0 := (hb4.block _ (lt_heap hr3_0) (lt_heap hr3_0) (by omega)).trans hr3_0
  have hr4_1 := (hb4.block _ (lt_heap hr3_1) (lt_heap hr3_1) (by omega)).trans hr3_1
  have hr4_2 := (hb4.block _ (lt_heap hr3_2) (lt_heap hr3_2) (by omega)).trans hr3_2
  have HU4 := Lib.hid (HU3.out.trans (hb4.mono HU3.out.size))
  refine Ol.keep hK _ _ (⟨(hb4.block _ (lt_heap hS0.1) (lt_heap hS0.1) (by omega)).trans hS0.1, (hb4.block _ (lt_heap hS0.2) (lt_heap hS0.2) (by omega)).trans hS0.2⟩) (fun hS4c => ?_)
  clear hK K
  refine Ol.way_ready (rs := [6]) (by kernel_rfl) (by simp) ?_
  refine Ol.Each.cons rfl (fun K hK => ?_) Ol.Each.nil
  go_simp
  go_wp2_with (go_at_call 58; refine (flist_hue g t n (by omega) _ HP4.out (by omega) (by omega)).mono ?_; rintro e y5 ⟨⟨al, cl, rfl, hla⟩, hp5, hb5⟩; have HL := Lib.hid (lq_of (lo := w.heap.size + 2) (q := q) hla (by decide) (by omega) (by omega)); clear hla)
  have HP5 := Lib.hid hp5
  have hz5 := hb5.size
  have hr5_0 := (hb5.block _ (lt_heap hr4_0) (lt_heap hr4_0) (by omega)).trans hr4_0
  have hr5_1 := (hb5.block _ (lt_heap hr4_1) (lt_heap hr4_1) (by omega)).trans hr4_1
  have hr5_2 := (hb5.block _ (lt_heap hr4_2) (lt_heap hr4_2) (by omega)).trans hr4_2
  have HU5 := Lib.hid (HU4.out.trans (hb5.mono HU4.out.size))
  refine Ol.keep hK _ _ (⟨(hb5.block _ (lt_heap hS4c.1) (lt_heap hS4c.1) (by omega)).trans hS4c.1, (hb5.block _ (lt_heap hS4c.2) (lt_heap hS4c.2) (by omega)).trans hS4c.2⟩) (fun hS5c => ?_)
  clear hK K
  refine Ol.way_plain (i := 7) (v := ?_) rfl (by kernel_rfl) (by kernel_rfl) (by kernel_rfl) (fun _ _ _ h => h) (by decide) (Or.inl ⟨by kernel_rfl, by (intro wz _; go_simp; try with_reducible rfl)⟩) (Ol.on hS5c) ?_
  go_simp
  refine Ol.way_ready (rs := [8]) (by kernel_rfl) (by simp) ?_
  refine Ol.Each.cons rfl (fun K hK => ?_) Ol.Each.nil
  have p0 := cell_of_row _ _ 2 _ _ _ hr5_2
  simp at p0
  have fz : ∀ j, y5.frozen? ⟨q, j, none⟩ = false := fun j => by simp [World.frozen?, hr5_2]
  go_simp
  clear fz p0
  have hN : (y5.setCell ⟨q, 2, none⟩ (.slice al n cl)).heap[q]? = some (.cells #[.int .i64 W, .int .i64 H, .slice al n cl] 35 (0, 0)) := heap_setCell_same _ _ 2 _ _ _ hr5_2
  have hO : ∀ kk, kk ≠ q → (y5.setCell ⟨q, 2, none⟩ (.slice al n cl)).heap[kk]? = y5.heap[kk]? := fun kk hk => Below.heap_setCell _ _ _ _ hk
  have HUx := HU5.out.setNew (b := q) (by omega) (by omega) 2 (.slice al n cl)
  have hPx := HP5.out.set (b := q) (by omega) 2 (.slice al n cl)
  have HLx := Lib.hid (Lq.heap (w' := (y5.setCell ⟨q, 2, none⟩ (.slice al n cl))) HL.out (fun k h => hO k (by omega)))
  clear HL
  obtain ⟨y6, hy6⟩ : ∃ y, y5.setCell ⟨q, 2, none⟩ (.slice al n cl) = y := ⟨_, rfl⟩
  rw [hy6] at hN hO HUx hPx HLx ⊢
  clear hy6
  have HU6 := Lib.hid HUx
  have HP6 := Lib.hid hPx
  have hz6 := HU6.out.size
  have hr6_0 := (hO _ (by omega)).trans hr5_0
  have hr6_1 := (hO _ (by omega)).trans hr5_1
  have hr6_2 := hN
  clear hN HUx hPx
  refine Ol.past hK (by kernel_rfl) _ _ ?_
  clear hK K
  refine Ol.way_done (by kernel_rfl) ?_ _
  have c2_0 := cell_of_row _ _ 0 _ _ _ hr6_2
  have c2_1 := cell_of_row _ _ 1 _ _ _ hr6_2
  have c2_2 := cell_of_row _ _ 2 _ _ _ hr6_2
  simp at c2_0 c2_1 c2_2
  have hHr := Lib.hid hr6_1
  have hHi := Lib.hid (show (Try.prog.info? 35).map (·.size) = some (#[.int .i64 W, .int .i64 H, .slice al n cl] : Array Value).size by kernel_rfl)
  have hHz := Lib.hid (show (#[.int .i64 0, .int .i64 0, .slice none 0 0] : Array Value).size = (#[.int .i64 W, .int .i64 H, .slice al n cl] : Array Value).size from rfl)
  have hHo := Lib.hid (show (#[.int .i64 W, .int .i64 H, .slice al n cl] : Array Value).all (·.oneCell') = true by simp [Value.oneCell'])
  go_wp2_with (first | (refine Au.wpList_store_row rfl 35 (.tmp 2) (.tmp 15) rfl y6 #[.int .i64 0, .int .i64 0, .slice none 0 0] #[.int .i64 W, .int .i64 H, .slice al n cl] (w.heap.size + 1) 35 hHr.out rfl rfl hHi.out hHz.out hHo.out ?_))
  clear c2_0 c2_1 c2_2
  clear hHr hHi hHz hHo
  have hN := setRow_heap _ (w.heap.size + 1) _ #[.int .i64 W, .int .i64 H, .slice al n cl] _ _ hr6_1
  have hsz := HU6.out.size
  have HUx := aft_setRow (k := w.heap.size + 1) HU6.out (by omega) (by omega) #[.int .i64 W, .int .i64 H, .slice al n cl]
  have hPx := rp_setRow (k := w.heap.size + 1) HP6.out (by omega) #[.int .i64 W, .int .i64 H, .slice al n cl]
  have hO : ∀ kk, kk ≠ w.heap.size + 1 → (y6.setRow (w.heap.size + 1) #[.int .i64 W, .int .i64 H, .slice al n cl]).heap[kk]? = y6.heap[kk]? := fun kk hk => setRow_other _ _ _ _ hk
  obtain ⟨y7, hy7⟩ : ∃ y, y6.setRow (w.heap.size + 1) #[.int .i64 W, .int .i64 H, .slice al n cl] = y := ⟨_, rfl⟩
  rw [hy7] at hN HUx hO hPx ⊢
  clear hy7 hsz
  have HU7 := Lib.hid HUx
  clear HUx
  have HP7 := Lib.hid hPx
  have hz7 := HU7.out.size
  have hr7_0 := (hO _ (by omega)).trans hr6_0
  have hr7_1 := hN
  have hr7_2 := (hO _ (by omega)).trans hr6_2
  have HLy := Lib.hid ((HLx.out.heap (fun k h => hO k (by omega))).low (b2 := w.heap.size) (by omega))
  clear hN hO
  clear hr6_0 hr6_1 hr6_2 HU6
  have c1_0 := cell_of_row _ _ 0 _ _ _ hr7_1
  have c1_1 := cell_of_row _ _ 1 _ _ _ hr7_1
  have c1_2 := cell_of_row _ _ 2 _ _ _ hr7_1
  simp at c1_0 c1_1 c1_2
  go_wp2
  exact bodyPost_ret (v := .agg #[.int .i64 W, .int .i64 H, .slice al n cl]) (by simp [results, Try.results41, go_sem, c1_0, c1_1, c1_2]) rfl ⟨⟨al, cl, rfl, HLy.out⟩, HP7.out, HU7.out⟩

/-- what a film is read as: the states between its lists, the film -/
def fT0 (s : St) : St := itS triE (szS s) (fN s)
def fT1 (s : St) : St := itS oneE (fT0 s) (fN s)
def fT2 (s : St) : St := itS triE (fT1 s) (fN s)
def fT3 (s : St) : St := itS triE (fT2 s) (fN s)
def fT4 (s : St) : St := itS smlE (fT3 s) (fN s)
def fT5 (s : St) : St := itS smlE (fT4 s) (fN s)

def fF (s : St) : Flm := ⟨fW s, fH s, fN s, fN s, fN s, fN s, fN s, fN s, itV triE triV 3 (szS s), itV oneE oneV 1 (fT0 s), itV triE triV 3 (fT1 s), itV triE triV 3 (fT2 s), itV smlE smlV 1 (fT3 s), itV smlE smlV 1 (fT4 s)⟩

set_option maxHeartbeats 16000000 in
set_option maxRecDepth 100000 in
theorem ffilm_letters (g : Nat) {B : Nat} (s t0 t1 t2 t3 t4 t5 : St) (W H : Int) (n : Nat) (M0 : Nat → Int) (w : World) (hw : RP (.pointer (some ⟨g, 0, none⟩)) g B s w) (hg : g < w.heap.size) (hB : B ≤ w.heap.size) (hn : n ≤ 4096) (C : ∀ X : World, RP (.pointer (some ⟨g, 0, none⟩)) g B s X → g < X.heap.size → B ≤ X.heap.size → Calls Try.prog 41 #[.agg #[.pointer (some ⟨g, 0, none⟩)]] X fun e' w' => (∃ a c, e' = .returned (.agg #[.int .i64 W, .int .i64 H, .slice a n c]) ∧ RwP (fun b => X.heap.size ≤ b) 3 w' a n M0) ∧ RP (.pointer (some ⟨g, 0, none⟩)) g B t0 w' ∧ Aft g X.heap.size X w') (CP : ∀ X : World, Calls Try.prog 15 #[.agg #[.int .i64 W, .int .i64 H]] X fun e w' => e = .returned (.int .i64 (n : Int)) ∧ Below X.heap.size X w') (e1 : t1 = itS oneE t0 n) (e2 : t2 = itS triE t1 n) (e3 : t3 = itS triE t2 n) (e4 : t4 = itS smlE t3 n) (e5 : t5 = itS smlE t4 n) : Calls Try.prog 45 #[.agg #[.pointer (some ⟨g, 0, none⟩)]] w fun e' w' => (∃ (al : Option Addr) (cl : Nat) (ad : Option Addr) (cd : Nat) (an : Option Addr) (cn : Nat) (ab : Option Addr) (cb : Nat) (ax : Option Addr) (cx : Nat) (af : Option Addr) (cf : Nat), e' = .returned (.agg #[.int .i64 W, .int .i64 H, .slice al n cl, .slice ad n cd, .slice an n cn, .slice ab n cb, .slice ax n cx, .slice af n cf]) ∧ RwP (fun b => w.heap.size ≤ b) 3 w' al n M0 ∧ RwP (fun b => w.heap.size ≤ b) 1 w' ad n (itV oneE oneV 1 t0) ∧ RwP (fun b => w.heap.size ≤ b) 3 w' an n (itV triE triV 3 t1) ∧ RwP (fun b => w.heap.size ≤ b) 3 w' ab n (itV triE triV 3 t2) ∧ RwP (fun b => w.heap.size ≤ b) 1 w' ax n (itV smlE smlV 1 t3) ∧ RwP (fun b => w.heap.size ≤ b) 1 w' af n (itV smlE smlV 1 t4)) ∧ RP (.pointer (some ⟨g, 0, none⟩)) g B t5 w' ∧ Aft g w.heap.size w w' := by
  have HPw := Lib.hid hw
  have HC := Lib.hid C
  have HCP := Lib.hid CP
  clear hw C CP
  have E1 := Lib.hid e1
  clear e1
  have E2 := Lib.hid e2
  clear e2
  have E3 := Lib.hid e3
  clear e3
  have E4 := Lib.hid e4
  clear e4
  have E5 := Lib.hid e5
  clear e5
  go_enter Try.func45, Try.ntmps45
  go_upto_region 1 with fail
  have hR := Au.rows2 w (.cells #[.pointer (some ⟨g, 0, none⟩)] 92) (.cells #[.int .i64 0, .int .i64 0, .slice none 0 0, .slice none 0 0, .slice none 0 0, .slice none 0 0, .slice none 0 0, .slice none 0 0] 39)
  have HUx := Ve.below_n2 w (.cells #[.pointer (some ⟨g, 0, none⟩)] 92) (.cells #[.int .i64 0, .int .i64 0, .slice none 0 0, .slice none 0 0, .slice none 0 0, .slice none 0 0, .slice none 0 0, .slice none 0 0] 39)
  obtain ⟨y0, hy0⟩ : ∃ y0, (w.alloc (.cells #[.pointer (some ⟨g, 0, none⟩)] 92)).alloc (.cells #[.int .i64 0, .int .i64 0, .slice none 0 0, .slice none 0 0, .slice none 0 0, .slice none 0 0, .slice none 0 0, .slice none 0 0] 39) = y0 := ⟨_, rfl⟩
  rw [hy0] at hR HUx ⊢
  clear hy0
  have HP0 := Lib.hid (HPw.out.new HUx)
  have hz0 := HUx.size
  have HU0 := Lib.hid (Aft.of (g := g) (base := w.heap.size) HUx)
  clear HUx
  obtain ⟨hr0_0, hr0_1⟩ := hR
  have hlz := lt_heap hr0_1
  have c0_0 := cell_of_row _ _ 0 _ _ _ hr0_0
  simp at c0_0
  go_wp2_with fail
  refine (HC.out _ HP0.out (by omega) (by omega)).mono ?_
  rintro e y1 ⟨⟨al, cl, rfl, hla⟩, hp1, hb1⟩
  have HP1 := Lib.hid hp1
  have hz1 := hb1.size
  clear c0_0
  have hr1_0 := (hb1.block _ (lt_heap hr0_0) (lt_heap hr0_0) (by omega)).trans hr0_0
  have hr1_1 := (hb1.block _ (lt_heap hr0_1) (lt_heap hr0_1) (by omega)).trans hr0_1
  have HU1 := Lib.hid (HU0.out.trans (hb1.mono HU0.out.size))
  clear hr0_0 hr0_1 HU0
  obtain ⟨q, hq⟩ : ∃ q, q = y1.heap.size := ⟨_, rfl⟩
  have HL1 := Lib.hid (lq_of (lo := w.heap.size + 2) (q := q) hla (by decide) (by omega) (by omega))
  clear hla
  go_upto_region 2 with fail
  have hb2 := Ve.below_n1 y1 (.cells #[.int .i64 W, .int .i64 H, .slice al n cl, .slice none 0 0, .slice none 0 0, .slice none 0 0, .slice none 0 0, .slice none 0 0] 39)
  have hp2 := HP1.out.new hb2
  have hb2 := Aft.of (g := g) (base := y1.heap.size) hb2
  have hN := heap_alloc_last y1 (.cells #[.int .i64 W, .int .i64 H, .slice al n cl, .slice none 0 0, .slice none 0 0, .slice none 0 0, .slice none 0 0, .slice none 0 0] 39)
  obtain ⟨y2, hy2⟩ : ∃ y, y1.alloc (.cells #[.int .i64 W, .int .i64 H, .slice al n cl, .slice none 0 0, .slice none 0 0, .slice none 0 0, .slice none 0 0, .slice none 0 0] 39) = y := ⟨_, rfl⟩
  have hs2 : y2.heap.size = y1.heap.size + 1 := by rw [← hy2]; simp
  rw [hy2] at hb2 hN hp2 ⊢
  clear hy2
  have HP2 := Lib.hid hp2
  have hz2 := hb2.size
  have hl2_0 := lt_heap hr1_0
  have hl2_1 := lt_heap hr1_1
  have hr2_0 := (hb2.block _ (lt_heap hr1_0) (lt_heap hr1_0) (by omega)).trans hr1_0
  have hr2_1 := (hb2.block _ (lt_heap hr1_1) (lt_heap hr1_1) (by omega)).trans hr1_1
  have HU2 := Lib.hid (HU1.out.trans (hb2.mono HU1.out.size))
  have HL2 := Lib.hid (HL1.out.aft hb2 (by omega))
  clear HL1
  clear hr1_0 hr1_1 HU1
  have hr2_2 := hN
  clear hN
  rw [← hq] at hr2_2 ⊢
  have hqa : q ≤ y1.heap.size := by omega
  have hqb : y1.heap.size ≤ q := by omega
  have hqw : w.heap.size + 1 < q := by omega
  have hql := lt_heap hr2_2
  clear hq hs2
  have c0_0 := cell_of_row _ _ 0 _ _ _ hr2_0
  have c2_0 := cell_of_row _ _ 0 _ _ _ hr2_2
  have c2_1 := cell_of_row _ _ 1 _ _ _ hr2_2
  have c2_2 := cell_of_row _ _ 2 _ _ _ hr2_2
  have c2_3 := cell_of_row _ _ 3 _ _ _ hr2_2
  have c2_4 := cell_of_row _ _ 4 _ _ _ hr2_2
  have c2_5 := cell_of_row _ _ 5 _ _ _ hr2_2
  have c2_6 := cell_of_row _ _ 6 _ _ _ hr2_2
  have c2_7 := cell_of_row _ _ 7 _ _ _ hr2_2
  simp at c0_0 c2_0 c2_1 c2_2 c2_3 c2_4 c2_5 c2_6 c2_7
  go_wp2_with fail
  refine (as_read (HCP.out _) HP2.out).mono ?_
  rintro e y3 ⟨rfl, hp3, hb3⟩
  have HP3 := Lib.hid hp3
  have hz3 := hb3.size
  clear c0_0 c2_0 c2_1 c2_2 c2_3 c2_4 c2_5 c2_6 c2_7
  have hr3_0 := (hb3.block _ (lt_heap hr2_0) (lt_heap hr2_0) (by omega)).trans hr2_0
  have hr3_1 := (hb3.block _ (lt_heap hr2_1) (lt_heap hr2_1) (by omega)).trans hr2_1
  have hr3_2 := (hb3.block _ (lt_heap hr2_2) (lt_heap hr2_2) (by omega)).trans hr2_2
  have HU3 := Lib.hid (HU2.out.trans (hb3.mono HU2.out.size))
  have HL3 := Lib.hid (HL2.out.aft hb3 (by omega))
  clear HL2
  clear hr2_0 hr2_1 hr2_2 HU2
  have hqs0 := lt_heap hr3_2
  have c0_0 := cell_of_row _ _ 0 _ _ _ hr3_0
  have c2_0 := cell_of_row _ _ 0 _ _ _ hr3_2
  have c2_1 := cell_of_row _ _ 1 _ _ _ hr3_2
  have c2_2 := cell_of_row _ _ 2 _ _ _ hr3_2
  have c2_3 := cell_of_row _ _ 3 _ _ _ hr3_2
  have c2_4 := cell_of_row _ _ 4 _ _ _ hr3_2
  have c2_5 := cell_of_row _ _ 5 _ _ _ hr3_2
  have c2_6 := cell_of_row _ _ 6 _ _ _ hr3_2
  have c2_7 := cell_of_row _ _ 7 _ _ _ hr3_2
  simp at c0_0 c2_0 c2_1 c2_2 c2_3 c2_4 c2_5 c2_6 c2_7
  go_wp2_with fail
  refine ((show Calls _ _ _ _ (fun e w' => (∃ a c, e = .returned (.slice a n c) ∧ RwP (fun b => y3.heap.size ≤ b) 1 w' a n (itV oneE oneV 1 t0)) ∧ RP (.pointer (some ⟨g, 0, none⟩)) g B t1 w' ∧ Aft g _ _ w') from by rw [E1.out]; exact flist_fix g t0 n (by omega) _ HP3.out (by omega) (by omega))).mono ?_
  rintro e y4 ⟨⟨ad, cd, rfl, hla⟩, hp4, hb4⟩
  have HP4 := Lib.hid hp4
  have hz4 := hb4.size
  clear c0_0 c2_0 c2_1 c2_2 c2_3 c2_4 c2_5 c2_6 c2_7
  have hr4_0 := (hb4.block _ (lt_heap hr3_0) (lt_heap hr3_0) (by omega)).trans hr3_0
  have hr4_1 := (hb4.block _ (lt_heap hr3_1) (lt_heap hr3_1) (by omega)).trans hr3_1
  have hr4_2 := (hb4.block _ (lt_heap hr3_2) (lt_heap hr3_2) (by omega)).trans hr3_2
  have HU4 := Lib.hid (HU3.out.trans (hb4.mono HU3.out.size))
  have HL4 := Lib.hid (HL3.out.aft hb4 (by omega))
  clear HL3
  clear hr3_0 hr3_1 hr3_2 HU3
  have HLd4 := Lib.hid (lq_of (lo := w.heap.size + 2) (q := q) hla (by decide) (by omega) (.inl (by omega)))
  clear hla
  have c2_0 := cell_of_row _ _ 0 _ _ _ hr4_2
  have c2_1 := cell_of_row _ _ 1 _ _ _ hr4_2
  have c2_2 := cell_of_row _ _ 2 _ _ _ hr4_2
  have c2_3 := cell_of_row _ _ 3 _ _ _ hr4_2
  have c2_4 := cell_of_row _ _ 4 _ _ _ hr4_2
  have c2_5 := cell_of_row _ _ 5 _ _ _ hr4_2
  have c2_6 := cell_of_row _ _ 6 _ _ _ hr4_2
  have c2_7 := cell_of_row _ _ 7 _ _ _ hr4_2
  simp at c2_0 c2_1 c2_2 c2_3 c2_4 c2_5 c2_6 c2_7
  have fz : ∀ j, y4.frozen? ⟨q, j, none⟩ = false := fun j => by simp [World.frozen?, hr4_2]
  go_upto_region 4 with fail
  clear fz
  clear c2_0 c2_1 c2_2 c2_3 c2_4 c2_5 c2_6 c2_7
  have hN : (y4.setCell ⟨q, 3, none⟩ (.slice ad n cd)).heap[q]? = some (.cells #[.int .i64 W, .int .i64 H, .slice al n cl, .slice ad n cd, .slice none 0 0, .slice none 0 0, .slice none 0 0, .slice none 0 0] 39 (0, 0)) := heap_setCell_same _ _ 3 _ _ _ hr4_2
  have hO : ∀ kk, kk ≠ q → (y4.setCell ⟨q, 3, none⟩ (.slice ad n cd)).heap[kk]? = y4.heap[kk]? := fun kk hk => Below.heap_setCell _ _ _ _ hk
  have HUx := HU4.out.setNew (b := q) (by omega) (by omega) 3 (.slice ad n cd)
  have hPx := HP4.out.set (b := q) (by omega) 3 (.slice ad n cd)
  obtain ⟨y5, hy5⟩ : ∃ y, y4.setCell ⟨q, 3, none⟩ (.slice ad n cd) = y := ⟨_, rfl⟩
  rw [hy5] at hN hO HUx hPx ⊢
  clear hy5
  have HU5 := Lib.hid HUx
  have HP5 := Lib.hid hPx
  have hz5 := HU5.out.size
  have hr5_0 := (hO _ (by omega)).trans hr4_0
  have hr5_1 := (hO _ (by omega)).trans hr4_1
  have hr5_2 := hN
  have HL5 := Lib.hid (HL4.out.heap (fun k h => hO k (by omega)))
  clear HL4
  have HLd5 := Lib.hid (HLd4.out.heap (fun k h => hO k (by omega)))
  clear HLd4
  clear hN hO HUx
  clear hr4_0 hr4_1 hr4_2 HU4
  have hqs1 := lt_heap hr5_2
  have c0_0 := cell_of_row _ _ 0 _ _ _ hr5_0
  have c2_0 := cell_of_row _ _ 0 _ _ _ hr5_2
  have c2_1 := cell_of_row _ _ 1 _ _ _ hr5_2
  have c2_2 := cell_of_row _ _ 2 _ _ _ hr5_2
  have c2_3 := cell_of_row _ _ 3 _ _ _ hr5_2
  have c2_4 := cell_of_row _ _ 4 _ _ _ hr5_2
  have c2_5 := cell_of_row _ _ 5 _ _ _ hr5_2
  have c2_6 := cell_of_row _ _ 6 _ _ _ hr5_2
  have c2_7 := cell_of_row _ _ 7 _ _ _ hr5_2
  simp at c0_0 c2_0 c2_1 c2_2 c2_3 c2_4 c2_5 c2_6 c2_7
  go_wp2_with fail
  refine ((show Calls _ _ _ _ (fun e w' => (∃ a c, e = .returned (.slice a n c) ∧ RwP (fun b => y5.heap.size ≤ b) 3 w' a n (itV triE triV 3 t1)) ∧ RP (.pointer (some ⟨g, 0, none⟩)) g B t2 w' ∧ Aft g _ _ w') from by rw [E2.out]; exact flist_vec g t1 n (by omega) _ HP5.out (by omega) (by omega))).mono ?_
  rintro e y6 ⟨⟨an, cn, rfl, hla⟩, hp6, hb6⟩
  have HP6 := Lib.hid hp6
  have hz6 := hb6.size
  clear c0_0 c2_0 c2_1 c2_2 c2_3 c2_4 c2_5 c2_6 c2_7
  have hr6_0 := (hb6.block _ (lt_heap hr5_0) (lt_heap hr5_0) (by omega)).trans hr5_0
  have hr6_1 := (hb6.block _ (lt_heap hr5_1) (lt_heap hr5_1) (by omega)).trans hr5_1
  have hr6_2 := (hb6.block _ (lt_heap hr5_2) (lt_heap hr5_2) (by omega)).trans hr5_2
  have HU6 := Lib.hid (HU5.out.trans (hb6.mono HU5.out.size))
  have HL6 := Lib.hid (HL5.out.aft hb6 (by omega))
  clear HL5
  have HLd6 := Lib.hid (HLd5.out.aft hb6 (by omega))
  clear HLd5
  clear hr5_0 hr5_1 hr5_2 HU5
  have HLn6 := Lib.hid (lq_of (lo := w.heap.size + 2) (q := q) hla (by decide) (by omega) (.inl (by omega)))
  clear hla
  have c2_0 := cell_of_row _ _ 0 _ _ _ hr6_2
  have c2_1 := cell_of_row _ _ 1 _ _ _ hr6_2
  have c2_2 := cell_of_row _ _ 2 _ _ _ hr6_2
  have c2_3 := cell_of_row _ _ 3 _ _ _ hr6_2
  have c2_4 := cell_of_row _ _ 4 _ _ _ hr6_2
  have c2_5 := cell_of_row _ _ 5 _ _ _ hr6_2
  have c2_6 := cell_of_row _ _ 6 _ _ _ hr6_2
  have c2_7 := cell_of_row _ _ 7 _ _ _ hr6_2
  simp at c2_0 c2_1 c2_2 c2_3 c2_4 c2_5 c2_6 c2_7
  have fz : ∀ j, y6.frozen? ⟨q, j, none⟩ = false := fun j => by simp [World.frozen?, hr6_2]
  go_upto_region 5 with fail
  clear fz
  clear c2_0 c2_1 c2_2 c2_3 c2_4 c2_5 c2_6 c2_7
  have hN : (y6.setCell ⟨q, 4, none⟩ (.slice an n cn)).heap[q]? = some (.cells #[.int .i64 W, .int .i64 H, .slice al n cl, .slice ad n cd, .slice an n cn, .slice none 0 0, .slice none 0 0, .slice none 0 0] 39 (0, 0)) := heap_setCell_same _ _ 4 _ _ _ hr6_2
  have hO : ∀ kk, kk ≠ q → (y6.setCell ⟨q, 4, none⟩ (.slice an n cn)).heap[kk]? = y6.heap[kk]? := fun kk hk => Below.heap_setCell _ _ _ _ hk
  have HUx := HU6.out.setNew (b := q) (by omega) (by omega) 4 (.slice an n cn)
  have hPx := HP6.out.set (b := q) (by omega) 4 (.slice an n cn)
  obtain ⟨y7, hy7⟩ : ∃ y, y6.setCell ⟨q, 4, none⟩ (.slice an n cn) = y := ⟨_, rfl⟩
  rw [hy7] at hN hO HUx hPx ⊢
  clear hy7
  have HU7 := Lib.hid HUx
  have HP7 := Lib.hid hPx
  have hz7 := HU7.out.size
  have hr7_0 := (hO _ (by omega)).trans hr6_0
  have hr7_1 := (hO _ (by omega)).trans hr6_1
  have hr7_2 := hN
  have HL7 := Lib.hid (HL6.out.heap (fun k h => hO k (by omega)))
  clear HL6
  have HLd7 := Lib.hid (HLd6.out.heap (fun k h => hO k (by omega)))
  clear HLd6
  have HLn7 := Lib.hid (HLn6.out.heap (fun k h => hO k (by omega)))
  clear HLn6
  clear hN hO HUx
  clear hr6_0 hr6_1 hr6_2 HU6
  have hqs2 := lt_heap hr7_2
  have c0_0 := cell_of_row _ _ 0 _ _ _ hr7_0
  have c2_0 := cell_of_row _ _ 0 _ _ _ hr7_2
  have c2_1 := cell_of_row _ _ 1 _ _ _ hr7_2
  have c2_2 := cell_of_row _ _ 2 _ _ _ hr7_2
  have c2_3 := cell_of_row _ _ 3 _ _ _ hr7_2
  have c2_4 := cell_of_row _ _ 4 _ _ _ hr7_2
  have c2_5 := cell_of_row _ _ 5 _ _ _ hr7_2
  have c2_6 := cell_of_row _ _ 6 _ _ _ hr7_2
  have c2_7 := cell_of_row _ _ 7 _ _ _ hr7_2
  simp at c0_0 c2_0 c2_1 c2_2 c2_3 c2_4 c2_5 c2_6 c2_7
  go_wp2_with fail
  refine ((show Calls _ _ _ _ (fun e w' => (∃ a c, e = .returned (.slice a n c) ∧ RwP (fun b => y7.heap.size ≤ b) 3 w' a n (itV triE triV 3 t2)) ∧ RP (.pointer (some ⟨g, 0, none⟩)) g B t3 w' ∧ Aft g _ _ w') from by rw [E3.out]; exact flist_hue g t2 n (by omega) _ HP7.out (by omega) (by omega))).mono ?_
  rintro e y8 ⟨⟨ab, cb, rfl, hla⟩, hp8, hb8⟩
  have HP8 := Lib.hid hp8
  have hz8 := hb8.size
  clear c0_0 c2_0 c2_1 c2_2 c2_3 c2_4 c2_5 c2_6 c2_7
  have hr8_0 := (hb8.block _ (lt_heap hr7_0) (lt_heap hr7_0) (by omega)).trans hr7_0
  have hr8_1 := (hb8.block _ (lt_heap hr7_1) (lt_heap hr7_1) (by omega)).trans hr7_1
  have hr8_2 := (hb8.block _ (lt_heap hr7_2) (lt_heap hr7_2) (by omega)).trans hr7_2
  have HU8 := Lib.hid (HU7.out.trans (hb8.mono HU7.out.size))
  have HL8 := Lib.hid (HL7.out.aft hb8 (by omega))
  clear HL7
  have HLd8 := Lib.hid (HLd7.out.aft hb8 (by omega))
  clear HLd7
  have HLn8 := Lib.hid (HLn7.out.aft hb8 (by omega))
  clear HLn7
  clear hr7_0 hr7_1 hr7_2 HU7
  have HLb8 := Lib.hid (lq_of (lo := w.heap.size + 2) (q := q) hla (by decide) (by omega) (.inl (by omega)))
  clear hla
  have c2_0 := cell_of_row _ _ 0 _ _ _ hr8_2
  have c2_1 := cell_of_row _ _ 1 _ _ _ hr8_2
  have c2_2 := cell_of_row _ _ 2 _ _ _ hr8_2
  have c2_3 := cell_of_row _ _ 3 _ _ _ hr8_2
  have c2_4 := cell_of_row _ _ 4 _ _ _ hr8_2
  have c2_5 := cell_of_row _ _ 5 _ _ _ hr8_2
  have c2_6 := cell_of_row _ _ 6 _ _ _ hr8_2
  have c2_7 := cell_of_row _ _ 7 _ _ _ hr8_2
  simp at c2_0 c2_1 c2_2 c2_3 c2_4 c2_5 c2_6 c2_7
  have fz : ∀ j, y8.frozen? ⟨q, j, none⟩ = false := fun j => by simp [World.frozen?, hr8_2]
  go_upto_region 6 with fail
  clear fz
  clear c2_0 c2_1 c2_2 c2_3 c2_4 c2_5 c2_6 c2_7
  have hN : (y8.setCell ⟨q, 5, none⟩ (.slice ab n cb)).heap[q]? = some (.cells #[.int .i64 W, .int .i64 H, .slice al n cl, .slice ad n cd, .slice an n cn, .slice ab n cb, .slice none 0 0, .slice none 0 0] 39 (0, 0)) := heap_setCell_same _ _ 5 _ _ _ hr8_2
  have hO : ∀ kk, kk ≠ q → (y8.setCell ⟨q, 5, none⟩ (.slice ab n cb)).heap[kk]? = y8.heap[kk]? := fun kk hk => Below.heap_setCell _ _ _ _ hk
  have HUx := HU8.out.setNew (b := q) (by omega) (by omega) 5 (.slice ab n cb)
  have hPx := HP8.out.set (b := q) (by omega) 5 (.slice ab n cb)
  obtain ⟨y9, hy9⟩ : ∃ y, y8.setCell ⟨q, 5, none⟩ (.slice ab n cb) = y := ⟨_, rfl⟩
  rw [hy9] at hN hO HUx hPx ⊢
  clear hy9
  have HU9 := Lib.hid HUx
  have HP9 := Lib.hid hPx
  have hz9 := HU9.out.size
  have hr9_0 := (hO _ (by omega)).trans hr8_0
  have hr9_1 := (hO _ (by omega)).trans hr8_1
  have hr9_2 := hN
  have HL9 := Lib.hid (HL8.out.heap (fun k h => hO k (by omega)))
  clear HL8
  have HLd9 := Lib.hid (HLd8.out.heap (fun k h => hO k (by omega)))
  clear HLd8
  have HLn9 := Lib.hid (HLn8.out.heap (fun k h => hO k (by omega)))
  clear HLn8
  have HLb9 := Lib.hid (HLb8.out.heap (fun k h => hO k (by omega)))
  clear HLb8
  clear hN hO HUx
  clear hr8_0 hr8_1 hr8_2 HU8
  have hqs3 := lt_heap hr9_2
  have c0_0 := cell_of_row _ _ 0 _ _ _ hr9_0
  have c2_0 := cell_of_row _ _ 0 _ _ _ hr9_2
  have c2_1 := cell_of_row _ _ 1 _ _ _ hr9_2
  have c2_2 := cell_of_row _ _ 2 _ _ _ hr9_2
  have c2_3 := cell_of_row _ _ 3 _ _ _ hr9_2
  have c2_4 := cell_of_row _ _ 4 _ _ _ hr9_2
  have c2_5 := cell_of_row _ _ 5 _ _ _ hr9_2
  have c2_6 := cell_of_row _ _ 6 _ _ _ hr9_2
  have c2_7 := cell_of_row _ _ 7 _ _ _ hr9_2
  simp at c0_0 c2_0 c2_1 c2_2 c2_3 c2_4 c2_5 c2_6 c2_7
  go_wp2_with fail
  refine ((show Calls _ _ _ _ (fun e w' => (∃ a c, e = .returned (.slice a n c) ∧ RwP (fun b => y9.heap.size ≤ b) 1 w' a n (itV smlE smlV 1 t3)) ∧ RP (.pointer (some ⟨g, 0, none⟩)) g B t4 w' ∧ Aft g _ _ w') from by rw [E4.out]; exact flist_sml g t3 n (by omega) _ HP9.out (by omega) (by omega))).mono ?_
  rintro e y10 ⟨⟨ax, cx, rfl, hla⟩, hp10, hb10⟩
  have HP10 := Lib.hid hp10
  have hz10 := hb10.size
  clear c0_0 c2_0 c2_1 c2_2 c2_3 c2_4 c2_5 c2_6 c2_7
  have hr10_0 := (hb10.block _ (lt_heap hr9_0) (lt_heap hr9_0) (by omega)).trans hr9_0
  have hr10_1 := (hb10.block _ (lt_heap hr9_1) (lt_heap hr9_1) (by omega)).trans hr9_1
  have hr10_2 := (hb10.block _ (lt_heap hr9_2) (lt_heap hr9_2) (by omega)).trans hr9_2
  have HU10 := Lib.hid (HU9.out.trans (hb10.mono HU9.out.size))
  have HL10 := Lib.hid (HL9.out.aft hb10 (by omega))
  clear HL9
  have HLd10 := Lib.hid (HLd9.out.aft hb10 (by omega))
  clear HLd9
  have HLn10 := Lib.hid (HLn9.out.aft hb10 (by omega))
  clear HLn9
  have HLb10 := Lib.hid (HLb9.out.aft hb10 (by omega))
  clear HLb9
  clear hr9_0 hr9_1 hr9_2 HU9
  have HLs10 := Lib.hid (lq_of (lo := w.heap.size + 2) (q := q) hla (by decide) (by omega) (.inl (by omega)))
  clear hla
  have c2_0 := cell_of_row _ _ 0 _ _ _ hr10_2
  have c2_1 := cell_of_row _ _ 1 _ _ _ hr10_2
  have c2_2 := cell_of_row _ _ 2 _ _ _ hr10_2
  have c2_3 := cell_of_row _ _ 3 _ _ _ hr10_2
  have c2_4 := cell_of_row _ _ 4 _ _ _ hr10_2
  have c2_5 := cell_of_row _ _ 5 _ _ _ hr10_2
  have c2_6 := cell_of_row _ _ 6 _ _ _ hr10_2
  have c2_7 := cell_of_row _ _ 7 _ _ _ hr10_2
  simp at c2_0 c2_1 c2_2 c2_3 c2_4 c2_5 c2_6 c2_7
  have fz : ∀ j, y10.frozen? ⟨q, j, none⟩ = false := fun j => by simp [World.frozen?, hr10_2]
  go_upto_region 7 with fail
  clear fz
  clear c2_0 c2_1 c2_2 c2_3 c2_4 c2_5 c2_6 c2_7
  have hN : (y10.setCell ⟨q, 6, none⟩ (.slice ax n cx)).heap[q]? = some (.cells #[.int .i64 W, .int .i64 H, .slice al n cl, .slice ad n cd, .slice an n cn, .slice ab n cb, .slice ax n cx, .slice none 0 0] 39 (0, 0)) := heap_setCell_same _ _ 6 _ _ _ hr10_2
  have hO : ∀ kk, kk ≠ q → (y10.setCell ⟨q, 6, none⟩ (.slice ax n cx)).heap[kk]? = y10.heap[kk]? := fun kk hk => Below.heap_setCell _ _ _ _ hk
  have HUx := HU10.out.setNew (b := q) (by omega) (by omega) 6 (.slice ax n cx)
  have hPx := HP10.out.set (b := q) (by omega) 6 (.slice ax n cx)
  obtain ⟨y11, hy11⟩ : ∃ y, y10.setCell ⟨q, 6, none⟩ (.slice ax n cx) = y := ⟨_, rfl⟩
  rw [hy11] at hN hO HUx hPx ⊢
  clear hy11
  have HU11 := Lib.hid HUx
  have HP11 := Lib.hid hPx
  have hz11 := HU11.out.size
  have hr11_0 := (hO _ (by omega)).trans hr10_0
  have hr11_1 := (hO _ (by omega)).trans hr10_1
  have hr11_2 := hN
  have HL11 := Lib.hid (HL10.out.heap (fun k h => hO k (by omega)))
  clear HL10
  have HLd11 := Lib.hid (HLd10.out.heap (fun k h => hO k (by omega)))
  clear HLd10
  have HLn11 := Lib.hid (HLn10.out.heap (fun k h => hO k (by omega)))
  clear HLn10
  have HLb11 := Lib.hid (HLb10.out.heap (fun k h => hO k (by omega)))
  clear HLb10
  have HLs11 := Lib.hid (HLs10.out.heap (fun k h => hO k (by omega)))
  clear HLs10
  clear hN hO HUx
  clear hr10_0 hr10_1 hr10_2 HU10
  have hqs4 := lt_heap hr11_2
  have c0_0 := cell_of_row _ _ 0 _ _ _ hr11_0
  have c2_0 := cell_of_row _ _ 0 _ _ _ hr11_2
  have c2_1 := cell_of_row _ _ 1 _ _ _ hr11_2
  have c2_2 := cell_of_row _ _ 2 _ _ _ hr11_2
  have c2_3 := cell_of_row _ _ 3 _ _ _ hr11_2
  have c2_4 := cell_of_row _ _ 4 _ _ _ hr11_2
  have c2_5 := cell_of_row _ _ 5 _ _ _ hr11_2
  have c2_6 := cell_of_row _ _ 6 _ _ _ hr11_2
  have c2_7 := cell_of_row _ _ 7 _ _ _ hr11_2
  simp at c0_0 c2_0 c2_1 c2_2 c2_3 c2_4 c2_5 c2_6 c2_7
  go_wp2_with fail
  refine ((show Calls _ _ _ _ (fun e w' => (∃ a c, e = .returned (.slice a n c) ∧ RwP (fun b => y11.heap.size ≤ b) 1 w' a n (itV smlE smlV 1 t4)) ∧ RP (.pointer (some ⟨g, 0, none⟩)) g B t5 w' ∧ Aft g _ _ w') from by rw [E5.out]; exact flist_sml g t4 n (by omega) _ HP11.out (by omega) (by omega))).mono ?_
  rintro e y12 ⟨⟨af, cf, rfl, hla⟩, hp12, hb12⟩
  have HP12 := Lib.hid hp12
  have hz12 := hb12.size
  clear c0_0 c2_0 c2_1 c2_2 c2_3 c2_4 c2_5 c2_6 c2_7
  have hr12_0 := (hb12.block _ (lt_heap hr11_0) (lt_heap hr11_0) (by omega)).trans hr11_0
  have hr12_1 := (hb12.block _ (lt_heap hr11_1) (lt_heap hr11_1) (by omega)).trans hr11_1
  have hr12_2 := (hb12.block _ (lt_heap hr11_2) (lt_heap hr11_2) (by omega)).trans hr11_2
  have HU12 := Lib.hid (HU11.out.trans (hb12.mono HU11.out.size))
  have HL12 := Lib.hid (HL11.out.aft hb12 (by omega))
  clear HL11
  have HLd12 := Lib.hid (HLd11.out.aft hb12 (by omega))
  clear HLd11
  have HLn12 := Lib.hid (HLn11.out.aft hb12 (by omega))
  clear HLn11
  have HLb12 := Lib.hid (HLb11.out.aft hb12 (by omega))
  clear HLb11
  have HLs12 := Lib.hid (HLs11.out.aft hb12 (by omega))
  clear HLs11
  clear hr11_0 hr11_1 hr11_2 HU11
  have HLf12 := Lib.hid (lq_of (lo := w.heap.size + 2) (q := q) hla (by decide) (by omega) (.inl (by omega)))
  clear hla
  have c2_0 := cell_of_row _ _ 0 _ _ _ hr12_2
  have c2_1 := cell_of_row _ _ 1 _ _ _ hr12_2
  have c2_2 := cell_of_row _ _ 2 _ _ _ hr12_2
  have c2_3 := cell_of_row _ _ 3 _ _ _ hr12_2
  have c2_4 := cell_of_row _ _ 4 _ _ _ hr12_2
  have c2_5 := cell_of_row _ _ 5 _ _ _ hr12_2
  have c2_6 := cell_of_row _ _ 6 _ _ _ hr12_2
  have c2_7 := cell_of_row _ _ 7 _ _ _ hr12_2
  simp at c2_0 c2_1 c2_2 c2_3 c2_4 c2_5 c2_6 c2_7
  have fz : ∀ j, y12.frozen? ⟨q, j, none⟩ = false := fun j => by simp [World.frozen?, hr12_2]
  go_upto_region 8 with fail
  clear fz
  clear c2_0 c2_1 c2_2 c2_3 c2_4 c2_5 c2_6 c2_7
  have hN : (y12.setCell ⟨q, 7, none⟩ (.slice af n cf)).heap[q]? = some (.cells #[.int .i64 W, .int .i64 H, .slice al n cl, .slice ad n cd, .slice an n cn, .slice ab n cb, .slice ax n cx, .slice af n cf] 39 (0, 0)) := heap_setCell_same _ _ 7 _ _ _ hr12_2
  have hO : ∀ kk, kk ≠ q → (y12.setCell ⟨q, 7, none⟩ (.slice af n cf)).heap[kk]? = y12.heap[kk]? := fun kk hk => Below.heap_setCell _ _ _ _ hk
  have HUx := HU12.out.setNew (b := q) (by omega) (by omega) 7 (.slice af n cf)
  have hPx := HP12.out.set (b := q) (by omega) 7 (.slice af n cf)
  obtain ⟨y13, hy13⟩ : ∃ y, y12.setCell ⟨q, 7, none⟩ (.slice af n cf) = y := ⟨_, rfl⟩
  rw [hy13] at hN hO HUx hPx ⊢
  clear hy13
  have HU13 := Lib.hid HUx
  have HP13 := Lib.hid hPx
  have hz13 := HU13.out.size
  have hr13_0 := (hO _ (by omega)).trans hr12_0
  have hr13_1 := (hO _ (by omega)).trans hr12_1
  have hr13_2 := hN
  have HL13 := Lib.hid (HL12.out.heap (fun k h => hO k (by omega)))
  clear HL12
  have HLd13 := Lib.hid (HLd12.out.heap (fun k h => hO k (by omega)))
  clear HLd12
  have HLn13 := Lib.hid (HLn12.out.heap (fun k h => hO k (by omega)))
  clear HLn12
  have HLb13 := Lib.hid (HLb12.out.heap (fun k h => hO k (by omega)))
  clear HLb12
  have HLs13 := Lib.hid (HLs12.out.heap (fun k h => hO k (by omega)))
  clear HLs12
  have HLf13 := Lib.hid (HLf12.out.heap (fun k h => hO k (by omega)))
  clear HLf12
  clear hN hO HUx
  clear hr12_0 hr12_1 hr12_2 HU12
  have c2_0 := cell_of_row _ _ 0 _ _ _ hr13_2
  have c2_1 := cell_of_row _ _ 1 _ _ _ hr13_2
  have c2_2 := cell_of_row _ _ 2 _ _ _ hr13_2
  have c2_3 := cell_of_row _ _ 3 _ _ _ hr13_2
  have c2_4 := cell_of_row _ _ 4 _ _ _ hr13_2
  have c2_5 := cell_of_row _ _ 5 _ _ _ hr13_2
  have c2_6 := cell_of_row _ _ 6 _ _ _ hr13_2
  have c2_7 := cell_of_row _ _ 7 _ _ _ hr13_2
  simp at c2_0 c2_1 c2_2 c2_3 c2_4 c2_5 c2_6 c2_7
  have hHr := Lib.hid hr13_1
  have hHi := Lib.hid (show (Try.prog.info? 39).map (·.size) = some (#[.int .i64 W, .int .i64 H, .slice al n cl, .slice ad n cd, .slice an n cn, .slice ab n cb, .slice ax n cx, .slice af n cf] : Array Value).size by kernel_rfl)
  have hHz := Lib.hid (show (#[.int .i64 0, .int .i64 0, .slice none 0 0, .slice none 0 0, .slice none 0 0, .slice none 0 0, .slice none 0 0, .slice none 0 0] : Array Value).size = (#[.int .i64 W, .int .i64 H, .slice al n cl, .slice ad n cd, .slice an n cn, .slice ab n cb, .slice ax n cx, .slice af n cf] : Array Value).size from rfl)
  have hHo := Lib.hid (show (#[.int .i64 W, .int .i64 H, .slice al n cl, .slice ad n cd, .slice an n cn, .slice ab n cb, .slice ax n cx, .slice af n cf] : Array Value).all (·.oneCell') = true by simp [Value.oneCell'])
  go_wp2_with (first | (refine Au.wpList_store_row rfl 39 (.tmp 2) (.tmp 42) rfl y13 #[.int .i64 0, .int .i64 0, .slice none 0 0, .slice none 0 0, .slice none 0 0, .slice none 0 0, .slice none 0 0, .slice none 0 0] #[.int .i64 W, .int .i64 H, .slice al n cl, .slice ad n cd, .slice an n cn, .slice ab n cb, .slice ax n cx, .slice af n cf] (w.heap.size + 1) 39 hHr.out rfl rfl hHi.out hHz.out hHo.out ?_))
  clear c2_0 c2_1 c2_2 c2_3 c2_4 c2_5 c2_6 c2_7
  clear hHr hHi hHz hHo
  have hN := setRow_heap _ (w.heap.size + 1) _ #[.int .i64 W, .int .i64 H, .slice al n cl, .slice ad n cd, .slice an n cn, .slice ab n cb, .slice ax n cx, .slice af n cf] _ _ hr13_1
  have hsz := HU13.out.size
  have HUx := aft_setRow (k := w.heap.size + 1) HU13.out (by omega) (by omega) #[.int .i64 W, .int .i64 H, .slice al n cl, .slice ad n cd, .slice an n cn, .slice ab n cb, .slice ax n cx, .slice af n cf]
  have hPx := rp_setRow (k := w.heap.size + 1) HP13.out (by omega) #[.int .i64 W, .int .i64 H, .slice al n cl, .slice ad n cd, .slice an n cn, .slice ab n cb, .slice ax n cx, .slice af n cf]
  have hO : ∀ kk, kk ≠ w.heap.size + 1 → (y13.setRow (w.heap.size + 1) #[.int .i64 W, .int .i64 H, .slice al n cl, .slice ad n cd, .slice an n cn, .slice ab n cb, .slice ax n cx, .slice af n cf]).heap[kk]? = y13.heap[kk]? := fun kk hk => setRow_other _ _ _ _ hk
  obtain ⟨y14, hy14⟩ : ∃ y, y13.setRow (w.heap.size + 1) #[.int .i64 W, .int .i64 H, .slice al n cl, .slice ad n cd, .slice an n cn, .slice ab n cb, .slice ax n cx, .slice af n cf] = y := ⟨_, rfl⟩
  rw [hy14] at hN HUx hO hPx ⊢
  clear hy14 hsz
  have HU14 := Lib.hid HUx
  clear HUx
  have HP14 := Lib.hid hPx
  have hz14 := HU14.out.size
  have hr14_0 := (hO _ (by omega)).trans hr13_0
  have hr14_1 := hN
  have hr14_2 := (hO _ (by omega)).trans hr13_2
  have YHL := Lib.hid ((Lq.heap (w' := y14) HL13.out (fun k h => hO k (by omega))).low (b2 := w.heap.size) (by omega))
  have YHLd := Lib.hid ((Lq.heap (w' := y14) HLd13.out (fun k h => hO k (by omega))).low (b2 := w.heap.size) (by omega))
  have YHLn := Lib.hid ((Lq.heap (w' := y14) HLn13.out (fun k h => hO k (by omega))).low (b2 := w.heap.size) (by omega))
  have YHLb := Lib.hid ((Lq.heap (w' := y14) HLb13.out (fun k h => hO k (by omega))).low (b2 := w.heap.size) (by omega))
  have YHLs := Lib.hid ((Lq.heap (w' := y14) HLs13.out (fun k h => hO k (by omega))).low (b2 := w.heap.size) (by omega))
  have YHLf := Lib.hid ((Lq.heap (w' := y14) HLf13.out (fun k h => hO k (by omega))).low (b2 := w.heap.size) (by omega))
  clear hN hO
  clear hr13_0 hr13_1 hr13_2 HU13
  go_wp2
  exact bodyPost_ret (v := .agg #[.int .i64 W, .int .i64 H, .slice al n cl, .slice ad n cd, .slice an n cn, .slice ab n cb, .slice ax n cx, .slice af n cf]) (results_row (t := 39) Try.results45 rfl hr14_1 Try.underlying39 rfl (by kernel_rfl)) rfl ⟨⟨al, cl, ad, cd, an, cn, ab, cb, ax, cx, af, cf, rfl, YHL.out, YHLd.out, YHLn.out, YHLb.out, YHLs.out, YHLf.out⟩, HP14.out, HU14.out⟩

/-- a film lies there, in blocks of which something is known -/
structure FAtP (P : Nat → Prop) (w : World) (f : Flm) (p : Pl) : Prop where
  l : RwP P 3 w p.al f.nl f.L
  d : RwP P 1 w p.ad f.nd f.D
  n : RwP P 3 w p.an f.nn f.N
  b : RwP P 3 w p.ab f.nb f.B
  s : RwP P 1 w p.ax f.ns f.S
  f : RwP P 1 w p.af f.nf f.F

theorem FAtP.fat {P : Nat → Prop} {w : World} {f : Flm} {p : Pl} (h : FAtP P w f p) : FAt w f p := ⟨h.l.rw (by decide), h.d.rw (by decide), h.n.rw (by decide), h.b.rw (by decide), h.s.rw (by decide), h.f.rw (by decide)⟩

theorem FAtP.keep {P : Nat → Prop} {w w' : World} {f : Flm} {p : Pl} (h : FAtP P w f p) (hk : ∀ b, P b → w'.heap[b]? = w.heap[b]?) : FAtP P w' f p := ⟨h.l.keep hk, h.d.keep hk, h.n.keep hk, h.b.keep hk, h.s.keep hk, h.f.keep hk⟩

theorem FAtP.weak {P P' : Nat → Prop} {w : World} {f : Flm} {p : Pl} (h : FAtP P w f p) (hk : ∀ b, P b → P' b) : FAtP P' w f p := ⟨h.l.weak hk, h.d.weak hk, h.n.weak hk, h.b.weak hk, h.s.weak hk, h.f.weak hk⟩

theorem FAtP.lt {P : Nat → Prop} {w : World} {f : Flm} {p : Pl} (h : FAtP P w f p) : FAtP (fun b => P b ∧ b < w.heap.size) w f p := ⟨h.l.lt (by decide), h.d.lt (by decide), h.n.lt (by decide), h.b.lt (by decide), h.s.lt (by decide), h.f.lt (by decide)⟩

theorem ffilm (g : Nat) {B : Nat} (s : St) (w : World) (hw : RP (.pointer (some ⟨g, 0, none⟩)) g B s w) (hg : g < w.heap.size) (hB : B ≤ w.heap.size) :
    Calls Try.prog 45 #[.agg #[.pointer (some ⟨g, 0, none⟩)]] w fun e' w' => (∃ p : Pl, e' = .returned (.agg (FC (fF s) p)) ∧ FAtP (fun b => w.heap.size ≤ b) w' (fF s) p) ∧ RP (.pointer (some ⟨g, 0, none⟩)) g B (fT5 s) w' ∧ Aft g w.heap.size w w' := by
  refine (ffilm_letters g s (fT0 s) (fT1 s) (fT2 s) (fT3 s) (fT4 s) (fT5 s) (fW s) (fH s) (fN s) (itV triE triV 3 (szS s)) w hw hg hB (fN_is s).2 (fun X h1 h2 h3 => fsheet g s X h1 h2 h3) (fun X => pixf s X) rfl rfl rfl rfl rfl).mono ?_
  rintro e w' ⟨⟨al, cl, ad, cd, an, cn, ab, cb, ax, cx, af, cf, rfl, h1, h2, h3, h4, h5, h6⟩, h7, h8⟩
  exact ⟨⟨⟨al, cl, ad, cd, an, cn, ab, cb, ax, cx, af, cf⟩, rfl, ⟨h1, h2, h3, h4, h5, h6⟩⟩, h7, h8⟩

end Go.Proofs.Ytgkfoiekminfmaa.Fm
