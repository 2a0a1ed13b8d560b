/- Lights smoothed: a picture smoothed, by the program. -/
import Derived.Test.YtpinpkhalccjhaaDoorF43
import Derived.Test.YtpinpkhalccjhaaDoorF25
import Derived.Laws.StructEq
import Derived.Deep.AppendLies
namespace Go.Proofs.YtpinpkhalccjhaaDoor.Fm
open Go Go.RowKit Go.Proofs.YtpinpkhalccjhaaDoor Go.Proofs.YtpinpkhalccjhaaDoor.Rp Go.Proofs.YtpinpkhalccjhaaDoor.Re Go.Proofs.YtpinpkhalccjhaaDoor.Au Go.Proofs.YtpinpkhalccjhaaDoor.Jw
set_option linter.unusedVariables false
set_option linter.unusedSimpArgs false

theorem idx_lt {x y Wn Hn : Nat} (hx : x < Wn) (hy : y < Hn) : y * Wn + x < Wn * Hn := by
  have b := Nat.mul_le_mul_right Wn (show y + 1 ≤ Hn by omega)
  rw [Nat.add_mul, Nat.one_mul, Nat.mul_comm Hn Wn] at b
  omega

theorem flatc_lev (f : Flm) (Wn Hn lv x y : Nat) (L : Nat → Int) (hx : x < Wn) (o0 o1 o2 : Int) (h0 : o0 = sm0 f L Wn Hn lv x y) (h1 : o1 = sm1 f L Wn Hn lv x y) (h2 : o2 = sm2 f L Wn Hn lv x y) :
    flatc 3 (lev f Wn Hn lv L) (y * Wn + x + 1) = flatc 3 (lev f Wn Hn lv L) (y * Wn + x) ++ [.int .i64 o0, .int .i64 o1, .int .i64 o2] := by
  obtain ⟨e0, e1, e2⟩ := lev_at f Wn Hn lv x y L hx
  rw [flatc_step3, e0, e1, e2, h0, h1, h2]

theorem eq_size (W H W2 H2 : Int) (r : Bool) (hr : r = decide (W = W2 ∧ H = H2)) (w : World) : (Op.equalIn 10000 36 (.agg #[.int .i64 W, .int .i64 H]) (.agg #[.int .i64 W2, .int .i64 H2])).run Tryd.prog w = .ok r w := by
  rw [run_equalIn_struct w 9999 36 _ _ (by kernel_rfl) (by kernel_rfl)]
  simp only [Program.fieldsOf, Tryd.underlying36, Op.eqFields]
  subst hr
  by_cases h1 : W = W2
  · by_cases h2 : H = H2
    · simp [go_sem, h1, h2]
    · simp [go_sem, h1, h2]
  · simp [go_sem, h1]

set_option maxHeartbeats 4000000 in
set_option maxRecDepth 100000 in
theorem fit_f (f : Flm) (p : Pl) (W3 H3 : Int) (a : Option Addr) (n c : Nat) (L : Nat → Int) (w : World) (hf : FAt w f p) (ho : ¬ okF f) : Calls Tryd.prog 52 #[.agg (FC f p), .agg #[.int .i64 W3, .int .i64 H3, .slice a n c]] w fun e' w' => e' = .returned (.bool false) ∧ Below w.heap.size w w' := by
  have HF := Lib.hid hf
  clear hf
  have HO := Lib.hid ho
  clear ho
  go_enter Tryd.func52, Tryd.ntmps52
  go_upto_region 1 with fail
  have hR := Au.rows2 w (.cells (FC f p) 43) (.cells #[.int .i64 W3, .int .i64 H3, .slice a n c] 39)
  have HUx := Ve.below_n2 w (.cells (FC f p) 43) (.cells #[.int .i64 W3, .int .i64 H3, .slice a n c] 39)
  obtain ⟨y0, hy0⟩ : ∃ y0, (w.alloc (.cells (FC f p) 43)).alloc (.cells #[.int .i64 W3, .int .i64 H3, .slice a n c] 39) = y0 := ⟨_, rfl⟩
  rw [hy0] at hR HUx ⊢
  clear hy0
  have HU0 := Lib.hid HUx
  clear HUx
  obtain ⟨hr0_0, hr0_1⟩ := hR
  have c0_0 := cell_of_row _ _ 0 _ _ _ hr0_0
  have c0_1 := cell_of_row _ _ 1 _ _ _ hr0_0
  have c0_2 := cell_of_row _ _ 2 _ _ _ hr0_0
  have c0_3 := cell_of_row _ _ 3 _ _ _ hr0_0
  have c0_4 := cell_of_row _ _ 4 _ _ _ hr0_0
  have c0_5 := cell_of_row _ _ 5 _ _ _ hr0_0
  have c0_6 := cell_of_row _ _ 6 _ _ _ hr0_0
  have c0_7 := cell_of_row _ _ 7 _ _ _ hr0_0
  simp at c0_0 c0_1 c0_2 c0_3 c0_4 c0_5 c0_6 c0_7
  go_wp2_with fail
  clear c0_0 c0_1 c0_2 c0_3 c0_4 c0_5 c0_6 c0_7
  refine (fright_any f p _ (HF.out.on HU0.out)).mono ?_
  rintro e y1 ⟨rfl, hb1⟩
  have hr1_0 := (hb1.block _ (lt_heap hr0_0)).trans hr0_0
  have hr1_1 := (hb1.block _ (lt_heap hr0_1)).trans hr0_1
  have HU1 := Lib.hid (HU0.out.trans (hb1.mono HU0.out.size))
  clear hr0_0 hr0_1 HU0
  rw [decide_eq_false HO.out]
  go_wp2
  go_ret
  exact ⟨rfl, HU1.out⟩

set_option maxHeartbeats 4000000 in
set_option maxRecDepth 100000 in
theorem fit_s (f : Flm) (p : Pl) (W3 H3 : Int) (a : Option Addr) (n c : Nat) (L : Nat → Int) (w : World) (hf : FAt w f p) (ho : okF f) (ho3 : ¬ okSh W3 H3 n) : Calls Tryd.prog 52 #[.agg (FC f p), .agg #[.int .i64 W3, .int .i64 H3, .slice a n c]] w fun e' w' => e' = .returned (.bool false) ∧ Below w.heap.size w w' := by
  have HF := Lib.hid hf
  clear hf
  have HO := Lib.hid ho
  clear ho
  have HO3 := Lib.hid ho3
  clear ho3
  go_enter Tryd.func52, Tryd.ntmps52
  go_upto_region 1 with fail
  have hR := Au.rows2 w (.cells (FC f p) 43) (.cells #[.int .i64 W3, .int .i64 H3, .slice a n c] 39)
  have HUx := Ve.below_n2 w (.cells (FC f p) 43) (.cells #[.int .i64 W3, .int .i64 H3, .slice a n c] 39)
  obtain ⟨y0, hy0⟩ : ∃ y0, (w.alloc (.cells (FC f p) 43)).alloc (.cells #[.int .i64 W3, .int .i64 H3, .slice a n c] 39) = y0 := ⟨_, rfl⟩
  rw [hy0] at hR HUx ⊢
  clear hy0
  have HU0 := Lib.hid HUx
  clear HUx
  obtain ⟨hr0_0, hr0_1⟩ := hR
  have c0_0 := cell_of_row _ _ 0 _ _ _ hr0_0
  have c0_1 := cell_of_row _ _ 1 _ _ _ hr0_0
  have c0_2 := cell_of_row _ _ 2 _ _ _ hr0_0
  have c0_3 := cell_of_row _ _ 3 _ _ _ hr0_0
  have c0_4 := cell_of_row _ _ 4 _ _ _ hr0_0
  have c0_5 := cell_of_row _ _ 5 _ _ _ hr0_0
  have c0_6 := cell_of_row _ _ 6 _ _ _ hr0_0
  have c0_7 := cell_of_row _ _ 7 _ _ _ hr0_0
  simp at c0_0 c0_1 c0_2 c0_3 c0_4 c0_5 c0_6 c0_7
  go_wp2_with fail
  clear c0_0 c0_1 c0_2 c0_3 c0_4 c0_5 c0_6 c0_7
  refine (fright_any f p _ (HF.out.on HU0.out)).mono ?_
  rintro e y1 ⟨rfl, hb1⟩
  have hr1_0 := (hb1.block _ (lt_heap hr0_0)).trans hr0_0
  have hr1_1 := (hb1.block _ (lt_heap hr0_1)).trans hr0_1
  have HU1 := Lib.hid (HU0.out.trans (hb1.mono HU0.out.size))
  clear hr0_0 hr0_1 HU0
  rw [decide_eq_true HO.out]
  have c1_0 := cell_of_row _ _ 0 _ _ _ hr1_1
  have c1_1 := cell_of_row _ _ 1 _ _ _ hr1_1
  have c1_2 := cell_of_row _ _ 2 _ _ _ hr1_1
  simp at c1_0 c1_1 c1_2
  go_wp2_with fail
  refine (shright_any W3 H3 a n c _).mono ?_
  rintro e y2 ⟨rfl, hb2⟩
  clear c1_0 c1_1 c1_2
  have hr2_0 := (hb2.block _ (lt_heap hr1_0)).trans hr1_0
  have hr2_1 := (hb2.block _ (lt_heap hr1_1)).trans hr1_1
  have HU2 := Lib.hid (HU1.out.trans (hb2.mono HU1.out.size))
  clear hr1_0 hr1_1 HU1
  rw [decide_eq_false HO3.out]
  go_wp2
  go_ret
  exact ⟨rfl, HU2.out⟩

set_option maxHeartbeats 4000000 in
set_option maxRecDepth 100000 in
theorem fit_z (f : Flm) (p : Pl) (W3 H3 : Int) (a : Option Addr) (n c : Nat) (L : Nat → Int) (w : World) (hf : FAt w f p) (ho : okF f) (ho3 : okSh W3 H3 n) (r : Bool) (hr : r = decide (f.W = W3 ∧ f.H = H3)) : Calls Tryd.prog 52 #[.agg (FC f p), .agg #[.int .i64 W3, .int .i64 H3, .slice a n c]] w fun e' w' => e' = .returned (.bool r) ∧ Below w.heap.size w w' := by
  have HF := Lib.hid hf
  clear hf
  have HO := Lib.hid ho
  clear ho
  have HO3 := Lib.hid ho3
  clear ho3
  obtain ⟨fw, hfw⟩ : ∃ x, x = f.W := ⟨_, rfl⟩
  obtain ⟨fh, hfh⟩ : ∃ x, x = f.H := ⟨_, rfl⟩
  rw [← hfw, ← hfh] at hr
  have heq := fun W => eq_size fw fh W3 H3 r hr W
  have HFW := Lib.hid (And.intro hfw hfh)
  clear hr hfw hfh
  go_enter Tryd.func52, Tryd.ntmps52
  go_upto_region 1 with fail
  have hR := Au.rows2 w (.cells (FC f p) 43) (.cells #[.int .i64 W3, .int .i64 H3, .slice a n c] 39)
  have HUx := Ve.below_n2 w (.cells (FC f p) 43) (.cells #[.int .i64 W3, .int .i64 H3, .slice a n c] 39)
  obtain ⟨y0, hy0⟩ : ∃ y0, (w.alloc (.cells (FC f p) 43)).alloc (.cells #[.int .i64 W3, .int .i64 H3, .slice a n c] 39) = y0 := ⟨_, rfl⟩
  rw [hy0] at hR HUx ⊢
  clear hy0
  have HU0 := Lib.hid HUx
  clear HUx
  obtain ⟨hr0_0, hr0_1⟩ := hR
  have c0_0 := cell_of_row _ _ 0 _ _ _ hr0_0
  have c0_1 := cell_of_row _ _ 1 _ _ _ hr0_0
  have c0_2 := cell_of_row _ _ 2 _ _ _ hr0_0
  have c0_3 := cell_of_row _ _ 3 _ _ _ hr0_0
  have c0_4 := cell_of_row _ _ 4 _ _ _ hr0_0
  have c0_5 := cell_of_row _ _ 5 _ _ _ hr0_0
  have c0_6 := cell_of_row _ _ 6 _ _ _ hr0_0
  have c0_7 := cell_of_row _ _ 7 _ _ _ hr0_0
  simp at c0_0 c0_1 c0_2 c0_3 c0_4 c0_5 c0_6 c0_7
  go_wp2_with fail
  clear c0_0 c0_1 c0_2 c0_3 c0_4 c0_5 c0_6 c0_7
  refine (fright_any f p _ (HF.out.on HU0.out)).mono ?_
  rintro e y1 ⟨rfl, hb1⟩
  have hr1_0 := (hb1.block _ (lt_heap hr0_0)).trans hr0_0
  have hr1_1 := (hb1.block _ (lt_heap hr0_1)).trans hr0_1
  have HU1 := Lib.hid (HU0.out.trans (hb1.mono HU0.out.size))
  clear hr0_0 hr0_1 HU0
  rw [decide_eq_true HO.out]
  have c1_0 := cell_of_row _ _ 0 _ _ _ hr1_1
  have c1_1 := cell_of_row _ _ 1 _ _ _ hr1_1
  have c1_2 := cell_of_row _ _ 2 _ _ _ hr1_1
  simp at c1_0 c1_1 c1_2
  go_wp2_with fail
  refine (shright_any W3 H3 a n c _).mono ?_
  rintro e y2 ⟨rfl, hb2⟩
  clear c1_0 c1_1 c1_2
  have hr2_0 := (hb2.block _ (lt_heap hr1_0)).trans hr1_0
  have hr2_1 := (hb2.block _ (lt_heap hr1_1)).trans hr1_1
  have HU2 := Lib.hid (HU1.out.trans (hb2.mono HU1.out.size))
  clear hr1_0 hr1_1 HU1
  rw [decide_eq_true HO3.out]
  have c0_0 := cell_of_row _ _ 0 _ _ _ hr2_0
  have c0_1 := cell_of_row _ _ 1 _ _ _ hr2_0
  have c0_2 := cell_of_row _ _ 2 _ _ _ hr2_0
  have c0_3 := cell_of_row _ _ 3 _ _ _ hr2_0
  have c0_4 := cell_of_row _ _ 4 _ _ _ hr2_0
  have c0_5 := cell_of_row _ _ 5 _ _ _ hr2_0
  have c0_6 := cell_of_row _ _ 6 _ _ _ hr2_0
  have c0_7 := cell_of_row _ _ 7 _ _ _ hr2_0
  simp at c0_0 c0_1 c0_2 c0_3 c0_4 c0_5 c0_6 c0_7
  have c1_0 := cell_of_row _ _ 0 _ _ _ hr2_1
  have c1_1 := cell_of_row _ _ 1 _ _ _ hr2_1
  have c1_2 := cell_of_row _ _ 2 _ _ _ hr2_1
  simp at c1_0 c1_1 c1_2
  rw [← HFW.out.1] at c0_0
  rw [← HFW.out.2] at c0_1
  go_wp2
  go_ret
  exact ⟨rfl, HU2.out⟩

def fitP (f : Flm) (W3 H3 : Int) (n : Nat) : Prop := okF f ∧ okSh W3 H3 n ∧ (f.W = W3 ∧ f.H = H3)
instance (f : Flm) (W3 H3 : Int) (n : Nat) : Decidable (fitP f W3 H3 n) := by unfold fitP; infer_instance

theorem fit_any (f : Flm) (p : Pl) (W3 H3 : Int) (a : Option Addr) (n c : Nat) (L : Nat → Int) (w : World) (hf : FAt w f p) : Calls Tryd.prog 52 #[.agg (FC f p), .agg #[.int .i64 W3, .int .i64 H3, .slice a n c]] w fun e' w' => e' = .returned (.bool (decide (fitP f W3 H3 n))) ∧ Below w.heap.size w w' := by
  by_cases h1 : okF f
  case neg => rw [decide_eq_false (fun k : fitP f W3 H3 n => h1 k.1)]; exact fit_f f p W3 H3 a n c L w hf h1
  by_cases h2 : okSh W3 H3 n
  case neg => rw [decide_eq_false (fun k : fitP f W3 H3 n => h2 k.2.1)]; exact fit_s f p W3 H3 a n c L w hf h1 h2
  have e : decide (fitP f W3 H3 n) = decide (f.W = W3 ∧ f.H = H3) := decide_eq_decide.2 ⟨fun k => k.2.2, fun k => ⟨h1, h2, k⟩⟩
  rw [e]
  exact fit_z f p W3 H3 a n c L w hf h1 h2 _ rfl

set_option maxHeartbeats 16000000 in
set_option maxRecDepth 100000 in
theorem smoothed_any (f : Flm) (p : Pl) (a : Option Addr) (n c : Nat) (L : Nat → Int) (Wn Hn lv : Nat) (w : World) (hf : FAt w f p) (hl : Rw 3 w a n L) (hw : f.W = Wn) (hh : f.H = Hn) (ho : okF f) (hn : n = Wn * Hn) (hlv : lv < 5) (hcn : Cnt w) : Calls Tryd.prog 53 #[.agg (FC f p), .agg #[.int .i64 (Wn : Nat), .int .i64 (Hn : Nat), .slice a n c], .int .i64 lv] w fun e' w' => (∃ a' c', e' = .returned (.agg #[.int .i64 (Wn : Nat), .int .i64 (Hn : Nat), .slice a' n c']) ∧ RwP (fun b => w.heap.size ≤ b) 3 w' a' n (lev f Wn Hn lv L)) ∧ Below w.heap.size w w' := by
  have HF := Lib.hid hf
  have HL := Lib.hid hl
  have HW_ := Lib.hid hw
  have HH_ := Lib.hid hh
  have HO := Lib.hid ho
  have HC := Lib.hid hcn
  have HN := Lib.hid hn
  have hwb : 1 ≤ Wn ∧ Wn ≤ 64 ∧ 1 ≤ Hn ∧ Hn ≤ 64 := by have h1 := ho.1.1; unfold okSz at h1; rw [hw, hh] at h1; omega
  have hn4 : n ≤ 4096 := by have h1 := okSz_mul ho.1.1; rw [hw, hh] at h1; have e : ((Wn * Hn : Nat) : Int) = (Wn : Int) * (Hn : Int) := by push_cast; rfl
                            rw [hn]; omega
  have HLV := Lib.hid hlv
  clear hf hl hw hh ho hcn hn
  go_enter Tryd.func53, Tryd.ntmps53
  go_upto_region 1 with fail
  have hR := Au.rows3 w (.cells (FC f p) 43) (.cells #[.int .i64 (Wn : Nat), .int .i64 (Hn : Nat), .slice a n c] 39) (.cells #[.int .i64 0, .int .i64 0, .slice none 0 0] 39)
  have HUx := Ve.below_n3 w (.cells (FC f p) 43) (.cells #[.int .i64 (Wn : Nat), .int .i64 (Hn : Nat), .slice a n c] 39) (.cells #[.int .i64 0, .int .i64 0, .slice none 0 0] 39)
  obtain ⟨y0, hy0⟩ : ∃ y0, ((w.alloc (.cells (FC f p) 43)).alloc (.cells #[.int .i64 (Wn : Nat), .int .i64 (Hn : Nat), .slice a n c] 39)).alloc (.cells #[.int .i64 0, .int .i64 0, .slice none 0 0] 39) = y0 := ⟨_, rfl⟩
  rw [hy0] at hR HUx ⊢
  clear hy0
  have HU0 := Lib.hid HUx
  clear HUx
  obtain ⟨hr0_0, hr0_1, hr0_2⟩ := hR
  go_cut [7] (fun s7 wx => ∃ pb : Nat, s7 = .pointer (some ⟨pb, 0, none⟩) ∧ w.heap.size + 1 + 1 < pb ∧ wx.heap[pb]? = some (.cells (PC f p a n c ((2 : Int) ^ lv) (edg lv)) 157 (0, 0)) ∧ wx.heap[w.heap.size]? = some (.cells (FC f p) 43 (0, 0)) ∧ wx.heap[w.heap.size + 1]? = some (.cells #[.int .i64 (Wn : Nat), .int .i64 (Hn : Nat), .slice a n c] 39 (0, 0)) ∧ wx.heap[w.heap.size + 1 + 1]? = some (.cells #[.int .i64 0, .int .i64 0, .slice none 0 0] 39 (0, 0)) ∧ Hid (Below w.heap.size w wx))
  case first =>
    obtain ⟨st, hst⟩ : ∃ st, st = (2 : Int) ^ lv := ⟨_, rfl⟩
    obtain ⟨s2, hs2⟩ : ∃ st, st = (2 : Int) * (2 : Int) ^ lv := ⟨_, rfl⟩
    obtain ⟨ed, hed⟩ : ∃ e, e = edg lv := ⟨_, rfl⟩
    have hpb := pow_bd HLV.out
    rw [← hst] at hpb
    have q1 : IntKind.i64.wrap ((2 : Int) ^ lv) = st := by rw [← hst, IntKind.wrap_i64]; omega
    have q2 : IntKind.i64.wrap (2 * (2 : Int) ^ lv) = s2 := by rw [hs2, ← hst, IntKind.wrap_i64]; omega
    have HED := Lib.hid (show ∀ W : World, Calls Tryd.prog 91 #[.int .i64 s2] W (fun e' w' => e' = .returned (.int .i64 ed) ∧ W = w') from fun W => by rw [hed, hs2]; exact Wa.of_any _ W)
    have HST := Lib.hid hst
    have HE_ := Lib.hid hed
    clear hst hs2 hed
    refine wp_region_held_drew (S := fun y => y.heap[w.heap.size]? = some (.cells (FC f p) 43 (0, 0)) ∧ y.heap[w.heap.size + 1]? = some (.cells #[.int .i64 (Wn : Nat), .int .i64 (Hn : Nat), .slice a n c] 39 (0, 0))) (by kernel_rfl) (⟨hr0_0, hr0_1⟩) (fun hS0 => ?_)
    obtain ⟨y1, hy1⟩ : ∃ y, y0.drew = y := ⟨_, rfl⟩
    have HU1 := Lib.hid (show Below w.heap.size w y1 by rw [← hy1]; exact HU0.out.drew)
    have hr1_0 : y1.heap[w.heap.size]? = some (.cells (FC f p) 43 (0, 0)) := by rw [← hy1]; exact hr0_0
    have hr1_1 : y1.heap[w.heap.size + 1]? = some (.cells #[.int .i64 (Wn : Nat), .int .i64 (Hn : Nat), .slice a n c] 39 (0, 0)) := by rw [← hy1]; exact hr0_1
    have hr1_2 : y1.heap[w.heap.size + 1 + 1]? = some (.cells #[.int .i64 0, .int .i64 0, .slice none 0 0] 39 (0, 0)) := by rw [← hy1]; exact hr0_2
    rw [hy1] at hS0 ⊢
    clear hy1
    refine wpAnyH_take (i := 0) (v := ?_) rfl (by kernel_rfl) (by kernel_rfl) (by kernel_rfl) (fun _ _ _ h => h) (Or.inl ⟨by kernel_rfl, by (intro wz hSz; have c0_0 := cell_of_row _ _ 0 _ _ _ hSz.1; have c0_1 := cell_of_row _ _ 1 _ _ _ hSz.1; have c0_2 := cell_of_row _ _ 2 _ _ _ hSz.1; have c0_3 := cell_of_row _ _ 3 _ _ _ hSz.1; have c0_4 := cell_of_row _ _ 4 _ _ _ hSz.1; have c0_5 := cell_of_row _ _ 5 _ _ _ hSz.1; have c0_6 := cell_of_row _ _ 6 _ _ _ hSz.1; have c0_7 := cell_of_row _ _ 7 _ _ _ hSz.1; have c1_0 := cell_of_row _ _ 0 _ _ _ hSz.2; have c1_1 := cell_of_row _ _ 1 _ _ _ hSz.2; have c1_2 := cell_of_row _ _ 2 _ _ _ hSz.2; simp at c0_0 c0_1 c0_2 c0_3 c0_4 c0_5 c0_6 c0_7 c1_0 c1_1 c1_2; go_simp; try with_reducible rfl)⟩) hS0 ?_
    go_simp
    refine wpAnyH_take (i := 1) (v := ?_) rfl (by kernel_rfl) (by kernel_rfl) (by kernel_rfl) (fun _ _ _ h => h) (Or.inl ⟨by kernel_rfl, by (intro wz hSz; have c0_0 := cell_of_row _ _ 0 _ _ _ hSz.1; have c0_1 := cell_of_row _ _ 1 _ _ _ hSz.1; have c0_2 := cell_of_row _ _ 2 _ _ _ hSz.1; have c0_3 := cell_of_row _ _ 3 _ _ _ hSz.1; have c0_4 := cell_of_row _ _ 4 _ _ _ hSz.1; have c0_5 := cell_of_row _ _ 5 _ _ _ hSz.1; have c0_6 := cell_of_row _ _ 6 _ _ _ hSz.1; have c0_7 := cell_of_row _ _ 7 _ _ _ hSz.1; have c1_0 := cell_of_row _ _ 0 _ _ _ hSz.2; have c1_1 := cell_of_row _ _ 1 _ _ _ hSz.2; have c1_2 := cell_of_row _ _ 2 _ _ _ hSz.2; simp at c0_0 c0_1 c0_2 c0_3 c0_4 c0_5 c0_6 c0_7 c1_0 c1_1 c1_2; go_simp; try with_reducible rfl)⟩) hS0 ?_
    go_simp
    refine wpAnyH_take (i := 2) (v := ?_) rfl (by kernel_rfl) (by kernel_rfl) (by kernel_rfl) (fun _ _ _ h => h) (Or.inl ⟨by kernel_rfl, by (intro wz hSz; go_simp; try with_reducible rfl)⟩) hS0 ?_
    go_simp
    refine wpAnyH_take (i := 3) (v := ?_) rfl (by kernel_rfl) (by kernel_rfl) (by kernel_rfl) (fun _ _ _ h => h) (Or.inl ⟨by kernel_rfl, by (intro wz hSz; go_simp; try with_reducible rfl)⟩) hS0 ?_
    go_simp
    refine wpAnyH_take (i := 4) (v := ?_) rfl (by kernel_rfl) (by kernel_rfl) (by kernel_rfl) (fun _ _ _ h => h) (Or.inl ⟨by kernel_rfl, by (intro wz hSz; go_simp; try with_reducible rfl)⟩) hS0 ?_
    go_simp
    refine wpAnyH_take (i := 5) (v := ?_) rfl (by kernel_rfl) (by kernel_rfl) (by kernel_rfl) (fun _ _ _ h => h) (Or.inl ⟨by kernel_rfl, by (intro wz hSz; go_simp; try with_reducible rfl)⟩) hS0 ?_
    go_simp
    refine wpAnyH_ready (rs := [6, 8]) (by kernel_rfl) (by simp) ?_
    refine AllReadyH.cons rfl (fun K hK => ?_) (AllReadyH.cons rfl (fun K hK => ?_) AllReadyH.nil)
    · skip
      go_simp
      go_wp2_with (go_at_call 91; refine (HED.out _).mono ?_; rintro e ww ⟨rfl, rfl⟩)
      refine hK.out _ _ (hS0) (fun hS1q6 => ?_)
      clear hK K
      refine wpAnyH_take (i := 7) (v := ?_) rfl (by kernel_rfl) (by kernel_rfl) (by kernel_rfl) (fun _ _ _ h => h) (Or.inl ⟨by kernel_rfl, by (intro wz hSz; go_simp; try with_reducible rfl)⟩) hS1q6 ?_
      go_simp
      refine wpAnyH_ready (rs := [8]) (by kernel_rfl) (by simp) ?_
      refine AllReadyH.cons rfl (fun K hK => ?_) AllReadyH.nil
      go_simp
      have hb2 := Ve.below_n1 y1 (.cells #[.int .i64 0, .int .i64 0, .slice none 0 0, .slice none 0 0, .slice none 0 0, .slice none 0 0, .slice none 0 0, .slice none 0 0, .int .i64 0, .int .i64 0, .slice none 0 0, .int .i64 0, .int .i64 0] 157)
      have hN := heap_alloc_last y1 (.cells #[.int .i64 0, .int .i64 0, .slice none 0 0, .slice none 0 0, .slice none 0 0, .slice none 0 0, .slice none 0 0, .slice none 0 0, .int .i64 0, .int .i64 0, .slice none 0 0, .int .i64 0, .int .i64 0] 157)
      obtain ⟨y2, hy2⟩ : ∃ y, y1.alloc (.cells #[.int .i64 0, .int .i64 0, .slice none 0 0, .slice none 0 0, .slice none 0 0, .slice none 0 0, .slice none 0 0, .slice none 0 0, .int .i64 0, .int .i64 0, .slice none 0 0, .int .i64 0, .int .i64 0] 157) = y := ⟨_, rfl⟩
      rw [hy2] at hb2 hN ⊢
      clear hy2
      have hl2_0 := lt_heap hr1_0
      have hr2_0 := (hb2.block _ (lt_heap hr1_0)).trans hr1_0
      have hl2_1 := lt_heap hr1_1
      have hr2_1 := (hb2.block _ (lt_heap hr1_1)).trans hr1_1
      have hl2_2 := lt_heap hr1_2
      have hr2_2 := (hb2.block _ (lt_heap hr1_2)).trans hr1_2
      have hr2_3 := hN
      clear hN
      have HU2 := Lib.hid (HU1.out.trans (hb2.mono HU1.out.size))
      refine hK.out _ _ (⟨(hb2.block _ (lt_heap hS1q6.1)).trans hS1q6.1, (hb2.block _ (lt_heap hS1q6.2)).trans hS1q6.2⟩) (fun hS2a => ?_)
      clear hK K
      refine wpAnyH_ready (rs := [9]) (by kernel_rfl) (by simp) ?_
      refine AllReadyH.cons rfl (fun K hK => ?_) AllReadyH.nil
      refine step_store_row rfl 157 (.tmp 7) (.tmp 18) rfl #[.int .i64 0, .int .i64 0, .slice none 0 0, .slice none 0 0, .slice none 0 0, .slice none 0 0, .slice none 0 0, .slice none 0 0, .int .i64 0, .int .i64 0, .slice none 0 0, .int .i64 0, .int .i64 0] #[.int .i64 f.W, .int .i64 f.H, .slice p.al f.nl p.cl, .slice p.ad f.nd p.cd, .slice p.an f.nn p.cn, .slice p.ab f.nb p.cb, .slice p.ax f.ns p.cx, .slice p.af f.nf p.cf, .int .i64 Wn, .int .i64 Hn, .slice a n c, .int .i64 st, .int .i64 ed] _ 157 hr2_3 rfl (by first | rfl | (go_simp; done) | (go_simp; rfl)) (by kernel_rfl) rfl (by simp [Value.oneCell']) ?_
      have hN := setRow_heap _ (y1.heap.size) _ #[.int .i64 f.W, .int .i64 f.H, .slice p.al f.nl p.cl, .slice p.ad f.nd p.cd, .slice p.an f.nn p.cn, .slice p.ab f.nb p.cb, .slice p.ax f.ns p.cx, .slice p.af f.nf p.cf, .int .i64 Wn, .int .i64 Hn, .slice a n c, .int .i64 st, .int .i64 ed] _ _ hr2_3
      have hsz := HU2.out.size
      have HUx := below_setRow (g := y1.heap.size) HU2.out (by first | omega | (simp at *; omega)) #[.int .i64 f.W, .int .i64 f.H, .slice p.al f.nl p.cl, .slice p.ad f.nd p.cd, .slice p.an f.nn p.cn, .slice p.ab f.nb p.cb, .slice p.ax f.ns p.cx, .slice p.af f.nf p.cf, .int .i64 Wn, .int .i64 Hn, .slice a n c, .int .i64 st, .int .i64 ed]
      obtain ⟨y3, hy3⟩ : ∃ y, y2.setRow (y1.heap.size) #[.int .i64 f.W, .int .i64 f.H, .slice p.al f.nl p.cl, .slice p.ad f.nd p.cd, .slice p.an f.nn p.cn, .slice p.ab f.nb p.cb, .slice p.ax f.ns p.cx, .slice p.af f.nf p.cf, .int .i64 Wn, .int .i64 Hn, .slice a n c, .int .i64 st, .int .i64 ed] = y := ⟨_, rfl⟩
      have hO : ∀ k, k ≠ y1.heap.size → y3.heap[k]? = y2.heap[k]? := fun k hk => by rw [← hy3]; exact setRow_other _ _ _ _ hk
      rw [hy3] at hN HUx ⊢
      clear hy3
      have HU3 := Lib.hid HUx
      clear HUx
      have hr3_0 := (hO _ (by omega)).trans hr2_0
      have hr3_1 := (hO _ (by omega)).trans hr2_1
      have hr3_2 := (hO _ (by omega)).trans hr2_2
      have hr3_3 := hN
      clear hN
      refine hK.out _ _ (⟨(hO _ (by omega)).trans hS2a.1, (hO _ (by omega)).trans hS2a.2⟩) (fun hS3s => ?_)
      clear hK K
      refine wpAnyH_done (by kernel_rfl) ?_ _
      go_wp2_with fail
      go_meet
      exact ⟨_, rfl, by have := lt_heap hr3_2; first | omega | (have := lt_heap hr0_2; omega), by rw [← HE_.out, ← HST.out]; have hx := hr3_3; rw [← HW_.out, ← HH_.out] at hx; exact hx, hr3_0, hr3_1, hr3_2, HU3⟩
    · skip
      go_simp
      have hb2 := Ve.below_n1 y1 (.cells #[.int .i64 0, .int .i64 0, .slice none 0 0, .slice none 0 0, .slice none 0 0, .slice none 0 0, .slice none 0 0, .slice none 0 0, .int .i64 0, .int .i64 0, .slice none 0 0, .int .i64 0, .int .i64 0] 157)
      have hN := heap_alloc_last y1 (.cells #[.int .i64 0, .int .i64 0, .slice none 0 0, .slice none 0 0, .slice none 0 0, .slice none 0 0, .slice none 0 0, .slice none 0 0, .int .i64 0, .int .i64 0, .slice none 0 0, .int .i64 0, .int .i64 0] 157)
      obtain ⟨y2, hy2⟩ : ∃ y, y1.alloc (.cells #[.int .i64 0, .int .i64 0, .slice none 0 0, .slice none 0 0, .slice none 0 0, .slice none 0 0, .slice none 0 0, .slice none 0 0, .int .i64 0, .int .i64 0, .slice none 0 0, .int .i64 0, .int .i64 0] 157) = y := ⟨_, rfl⟩
      rw [hy2] at hb2 hN ⊢
      clear hy2
      have hl2_0 := lt_heap hr1_0
      have hr2_0 := (hb2.block _ (lt_heap hr1_0)).trans hr1_0
      have hl2_1 := lt_heap hr1_1
      have hr2_1 := (hb2.block _ (lt_heap hr1_1)).trans hr1_1
      have hl2_2 := lt_heap hr1_2
      have hr2_2 := (hb2.block _ (lt_heap hr1_2)).trans hr1_2
      have hr2_3 := hN
      clear hN
      have HU2 := Lib.hid (HU1.out.trans (hb2.mono HU1.out.size))
      refine hK.out _ _ (⟨(hb2.block _ (lt_heap hS0.1)).trans hS0.1, (hb2.block _ (lt_heap hS0.2)).trans hS0.2⟩) (fun hS2a => ?_)
      clear hK K
      refine wpAnyH_ready (rs := [6]) (by kernel_rfl) (by simp) ?_
      refine AllReadyH.cons rfl (fun K hK => ?_) AllReadyH.nil
      go_simp
      go_wp2_with (go_at_call 91; refine (HED.out _).mono ?_; rintro e ww ⟨rfl, rfl⟩)
      refine hK.out _ _ (hS2a) (fun hS2q6 => ?_)
      clear hK K
      refine wpAnyH_take (i := 7) (v := ?_) rfl (by kernel_rfl) (by kernel_rfl) (by kernel_rfl) (fun _ _ _ h => h) (Or.inl ⟨by kernel_rfl, by (intro wz hSz; go_simp; try with_reducible rfl)⟩) hS2q6 ?_
      go_simp
      refine wpAnyH_ready (rs := [9]) (by kernel_rfl) (by simp) ?_
      refine AllReadyH.cons rfl (fun K hK => ?_) AllReadyH.nil
      refine step_store_row rfl 157 (.tmp 7) (.tmp 18) rfl #[.int .i64 0, .int .i64 0, .slice none 0 0, .slice none 0 0, .slice none 0 0, .slice none 0 0, .slice none 0 0, .slice none 0 0, .int .i64 0, .int .i64 0, .slice none 0 0, .int .i64 0, .int .i64 0] #[.int .i64 f.W, .int .i64 f.H, .slice p.al f.nl p.cl, .slice p.ad f.nd p.cd, .slice p.an f.nn p.cn, .slice p.ab f.nb p.cb, .slice p.ax f.ns p.cx, .slice p.af f.nf p.cf, .int .i64 Wn, .int .i64 Hn, .slice a n c, .int .i64 st, .int .i64 ed] _ 157 hr2_3 rfl (by first | rfl | (go_simp; done) | (go_simp; rfl)) (by kernel_rfl) rfl (by simp [Value.oneCell']) ?_
      have hN := setRow_heap _ (y1.heap.size) _ #[.int .i64 f.W, .int .i64 f.H, .slice p.al f.nl p.cl, .slice p.ad f.nd p.cd, .slice p.an f.nn p.cn, .slice p.ab f.nb p.cb, .slice p.ax f.ns p.cx, .slice p.af f.nf p.cf, .int .i64 Wn, .int .i64 Hn, .slice a n c, .int .i64 st, .int .i64 ed] _ _ hr2_3
      have hsz := HU2.out.size
      have HUx := below_setRow (g := y1.heap.size) HU2.out (by first | omega | (simp at *; omega)) #[.int .i64 f.W, .int .i64 f.H, .slice p.al f.nl p.cl, .slice p.ad f.nd p.cd, .slice p.an f.nn p.cn, .slice p.ab f.nb p.cb, .slice p.ax f.ns p.cx, .slice p.af f.nf p.cf, .int .i64 Wn, .int .i64 Hn, .slice a n c, .int .i64 st, .int .i64 ed]
      obtain ⟨y3, hy3⟩ : ∃ y, y2.setRow (y1.heap.size) #[.int .i64 f.W, .int .i64 f.H, .slice p.al f.nl p.cl, .slice p.ad f.nd p.cd, .slice p.an f.nn p.cn, .slice p.ab f.nb p.cb, .slice p.ax f.ns p.cx, .slice p.af f.nf p.cf, .int .i64 Wn, .int .i64 Hn, .slice a n c, .int .i64 st, .int .i64 ed] = y := ⟨_, rfl⟩
      have hO : ∀ k, k ≠ y1.heap.size → y3.heap[k]? = y2.heap[k]? := fun k hk => by rw [← hy3]; exact setRow_other _ _ _ _ hk
      rw [hy3] at hN HUx ⊢
      clear hy3
      have HU3 := Lib.hid HUx
      clear HUx
      have hr3_0 := (hO _ (by omega)).trans hr2_0
      have hr3_1 := (hO _ (by omega)).trans hr2_1
      have hr3_2 := (hO _ (by omega)).trans hr2_2
      have hr3_3 := hN
      clear hN
      refine hK.out _ _ (⟨(hO _ (by omega)).trans hS2q6.1, (hO _ (by omega)).trans hS2q6.2⟩) (fun hS3s => ?_)
      clear hK K
      refine wpAnyH_done (by kernel_rfl) ?_ _
      go_wp2_with fail
      go_meet
      exact ⟨_, rfl, by have := lt_heap hr3_2; first | omega | (have := lt_heap hr0_2; omega), by rw [← HE_.out, ← HST.out]; have hx := hr3_3; rw [← HW_.out, ← HH_.out] at hx; exact hx, hr3_0, hr3_1, hr3_2, HU3⟩
  case rest =>
    obtain ⟨pb, rfl, hpw, hx, hz0, hz1, hz2, HUz⟩ := hcut
    rename World => y5
    have hr5_0 := hz0
    have hr5_1 := hz1
    have hr5_2 := hz2
    have hr5_3 := hx
    have HU5 := HUz
    clear hz0 hz1 hz2 hx HUz
    have c1_0 := cell_of_row _ _ 0 _ _ _ hr5_1
    have c1_1 := cell_of_row _ _ 1 _ _ _ hr5_1
    have c1_2 := cell_of_row _ _ 2 _ _ _ hr5_1
    simp at c1_0 c1_1 c1_2
    have HA := Lib.hid (heap_alloc_last y5 (.cells #[.int .i64 0, .int .i64 0, .slice none 0 0] 39))
    have hHi := Lib.hid (show (Tryd.prog.info? 39).map (·.size) = some (#[.int .i64 (Wn : Nat), .int .i64 (Hn : Nat), .slice none 0 0] : Array Value).size by kernel_rfl)
    have hHz := Lib.hid (show (#[.int .i64 0, .int .i64 0, .slice none 0 0] : Array Value).size = (#[.int .i64 (Wn : Nat), .int .i64 (Hn : Nat), .slice none 0 0] : Array Value).size from rfl)
    have hHo := Lib.hid (show (#[.int .i64 (Wn : Nat), .int .i64 (Hn : Nat), .slice none 0 0] : Array Value).all (·.oneCell') = true by simp [Value.oneCell'])
    go_upto_region 3 with (refine Au.wpList_store_row rfl 39 (.tmp 8) (.tmp 21) rfl (y5.alloc (.cells #[.int .i64 0, .int .i64 0, .slice none 0 0] 39)) #[.int .i64 0, .int .i64 0, .slice none 0 0] #[.int .i64 (Wn : Nat), .int .i64 (Hn : Nat), .slice none 0 0] (y5.heap.size) 39 HA.out rfl rfl hHi.out hHz.out hHo.out ?_)
    clear c1_0 c1_1 c1_2
    clear hHi hHz hHo
    have hN := setRow_heap _ (y5.heap.size) _ #[.int .i64 (Wn : Nat), .int .i64 (Hn : Nat), .slice none 0 0] _ _ HA.out
    clear HA
    have hsz := HU5.out.size
    have hb := Ve.below_n1 y5 (.cells #[.int .i64 0, .int .i64 0, .slice none 0 0] 39)
    have HUx := below_setRow (g := y5.heap.size) (HU5.out.trans (hb.mono HU5.out.size)) (by omega) #[.int .i64 (Wn : Nat), .int .i64 (Hn : Nat), .slice none 0 0]
    have hO : ∀ kk, kk < y5.heap.size → ((y5.alloc (.cells #[.int .i64 0, .int .i64 0, .slice none 0 0] 39)).setRow (y5.heap.size) #[.int .i64 (Wn : Nat), .int .i64 (Hn : Nat), .slice none 0 0]).heap[kk]? = y5.heap[kk]? := fun kk hk => (setRow_other _ _ _ _ (by omega)).trans (hb.block _ hk)
    obtain ⟨y6, hy6⟩ : ∃ y, (y5.alloc (.cells #[.int .i64 0, .int .i64 0, .slice none 0 0] 39)).setRow (y5.heap.size) #[.int .i64 (Wn : Nat), .int .i64 (Hn : Nat), .slice none 0 0] = y := ⟨_, rfl⟩
    have hs6 : y6.heap.size = y5.heap.size + 1 := by rw [← hy6]; simp [World.setRow]
    rw [hy6] at hN HUx hO ⊢
    clear hy6 hsz hb
    have HU6 := Lib.hid HUx
    clear HUx
    have hl6_0 := lt_heap hr5_0
    have hr6_0 := (hO _ hl6_0).trans hr5_0
    have hl6_1 := lt_heap hr5_1
    have hr6_1 := (hO _ hl6_1).trans hr5_1
    have hl6_2 := lt_heap hr5_2
    have hr6_2 := (hO _ hl6_2).trans hr5_2
    have hl6_3 := lt_heap hr5_3
    have hr6_3 := (hO _ hl6_3).trans hr5_3
    have hr6_4 := hN
    clear hN hO
    clear hr5_0 hr5_1 hr5_2 hr5_3 HU5
    obtain ⟨q, hq⟩ : ∃ q, q = y5.heap.size := ⟨_, rfl⟩
    rw [← hq] at hr6_4 ⊢
    have hql := lt_heap hr6_4
    have hqp : pb < q := by have := hl6_3; omega
    clear hq hs6
    have HP6 := Lib.hid (show PicAt y6 pb f p a n c L Wn Hn lv from ⟨hr6_3, HF.out.on HU6.out, HL.out.on HU6.out, HW_.out, HH_.out, HO.out, HN.out, HLV.out⟩)
    have c1_0 := cell_of_row _ _ 0 _ _ _ hr6_1
    have c1_1 := cell_of_row _ _ 1 _ _ _ hr6_1
    have c1_2 := cell_of_row _ _ 2 _ _ _ hr6_1
    simp at c1_0 c1_1 c1_2
    go_upto_region 4 with fail
    clear c1_0 c1_1 c1_2
    obtain ⟨bl, hbl⟩ : ∃ b, b = y6.heap.size := ⟨_, rfl⟩
    have hblq : q < bl := by omega
    have hble : bl ≤ y6.heap.size := by omega
    have hblf : y6.heap.size ≤ bl := by omega
    clear hbl
    go_loopw [25] (fun ix wr => ∃ (yy : Nat) (v : Value), yy ≤ Hn ∧ ix = .int .i64 yy ∧ wr.heap[q]? = some (.cells #[.int .i64 (Wn : Nat), .int .i64 (Hn : Nat), v] 39 (0, 0)) ∧ Hid (wr.ownsRow bl 47 3 v (yy * Wn) (flatc 3 (lev f Wn Hn lv L) (yy * Wn))) ∧ Hid (Aw (fun z => z < bl ∧ z ≠ q) y6 wr)) (fun ix _ => Hn - (intOf ix).toNat)
    case atStart => exact ⟨0, _, Nat.zero_le _, rfl, hr6_4, Lib.hid (by rw [Nat.zero_mul]; simpa [flatc] using World.ownsRow_nil _ _ _ _), Lib.hid (Aw.refl _ _)⟩
    case round =>
      obtain ⟨yy, v, hyy, rfl, hrq, HX, HA⟩ := hrel
      have hr7_0 := (HA.out.block _ ⟨by have := lt_heap hr6_0; omega, by omega⟩ (lt_heap hr6_0)).trans hr6_0
      have hr7_1 := (HA.out.block _ ⟨by have := lt_heap hr6_1; omega, by omega⟩ (lt_heap hr6_1)).trans hr6_1
      have hr7_2 := (HA.out.block _ ⟨by have := lt_heap hr6_2; omega, by omega⟩ (lt_heap hr6_2)).trans hr6_2
      have hr7_3 := (HA.out.block _ ⟨by have := lt_heap hr6_3; omega, by omega⟩ (lt_heap hr6_3)).trans hr6_3
      have hr7_4 := hrq
      clear hrq
      have HU7 := Lib.hid (HU6.out.trans (aw_low HA.out (b := w.heap.size) (by have := HU6.out.size; omega) (by omega) (HU6.out.size)))
      have hsw7 := HA.out.size
      obtain ⟨y7, hy_⟩ : ∃ y, y = wr := ⟨_, rfl⟩
      rw [← hy_] at HX HA hsw7 HU7 hr7_0 hr7_1 hr7_2 hr7_3 hr7_4 ⊢
      clear hy_
      by_cases hlt : yy < Hn
      · have hlt' : (yy : Int) < Hn := by omega
        have c1_0 := cell_of_row _ _ 0 _ _ _ hr7_1
        have c1_1 := cell_of_row _ _ 1 _ _ _ hr7_1
        have c1_2 := cell_of_row _ _ 2 _ _ _ hr7_1
        simp at c1_0 c1_1 c1_2
        go_upto_region 7 with fail
        clear c1_0 c1_1 c1_2
        go_loopw [31] (fun ix wr => ∃ (xx : Nat) (v : Value), xx ≤ Wn ∧ ix = .int .i64 xx ∧ wr.heap[q]? = some (.cells #[.int .i64 (Wn : Nat), .int .i64 (Hn : Nat), v] 39 (0, 0)) ∧ Hid (wr.ownsRow bl 47 3 v (yy * Wn + xx) (flatc 3 (lev f Wn Hn lv L) (yy * Wn + xx))) ∧ Hid (Aw (fun z => z < bl ∧ z ≠ q) y6 wr)) (fun ix _ => Wn - (intOf ix).toNat)
        case atStart => exact ⟨0, _, Nat.zero_le _, rfl, hr7_4, HX, HA⟩
        case round =>
          clear HX HA
          obtain ⟨xx, v, hxx, rfl, hrq, HX, HA⟩ := hrel
          have hr8_0 := (HA.out.block _ ⟨by have := lt_heap hr6_0; omega, by omega⟩ (lt_heap hr6_0)).trans hr6_0
          have hr8_1 := (HA.out.block _ ⟨by have := lt_heap hr6_1; omega, by omega⟩ (lt_heap hr6_1)).trans hr6_1
          have hr8_2 := (HA.out.block _ ⟨by have := lt_heap hr6_2; omega, by omega⟩ (lt_heap hr6_2)).trans hr6_2
          have hr8_3 := (HA.out.block _ ⟨by have := lt_heap hr6_3; omega, by omega⟩ (lt_heap hr6_3)).trans hr6_3
          have hr8_4 := hrq
          clear hrq
          have HU8 := Lib.hid (HU6.out.trans (aw_low HA.out (b := w.heap.size) (by have := HU6.out.size; omega) (by omega) (HU6.out.size)))
          have hsw8 := HA.out.size
          obtain ⟨y8, hy_⟩ : ∃ y, y = wr := ⟨_, rfl⟩
          rw [← hy_] at HX HA hsw8 HU8 hr8_0 hr8_1 hr8_2 hr8_3 hr8_4 ⊢
          clear hy_
          by_cases hlt2 : xx < Wn
          · have hlt2' : (xx : Int) < Wn := by omega
            have hki := idx_lt hlt2 hlt
            rw [← HN.out] at hki
            obtain ⟨k, hk_⟩ : ∃ k, k = yy * Wn + xx := ⟨_, rfl⟩
            have HPP := Lib.hid (show PicAt y8 pb f p a n c L Wn Hn lv from ⟨hr8_3, HF.out.on HU8.out, HL.out.on HU8.out, HW_.out, HH_.out, HO.out, HN.out, HLV.out⟩)
            obtain ⟨o0, ho0⟩ : ∃ t, t = sm0 f L Wn Hn lv xx yy := ⟨_, rfl⟩
            obtain ⟨o1, ho1⟩ : ∃ t, t = sm1 f L Wn Hn lv xx yy := ⟨_, rfl⟩
            obtain ⟨o2, ho2⟩ : ∃ t, t = sm2 f L Wn Hn lv xx yy := ⟨_, rfl⟩
            have HFL := Lib.hid (flatc_lev f Wn Hn lv xx yy L hlt2 o0 o1 o2 ho0 ho1 ho2)
            rw [← hk_] at HFL HX hki
            have HSM := Lib.hid (show ∀ W : World, Below y8.heap.size y8 W → Calls Tryd.prog 92 #[.pointer (some ⟨pb, 0, none⟩), .int .i64 (xx : Int), .int .i64 (yy : Int)] W (fun e' w' => e' = .returned (.agg #[.int .i64 o0, .int .i64 o1, .int .i64 o2]) ∧ Below W.heap.size W w') from fun W hW => by rw [ho0, ho1, ho2]; exact smooth_any f p a n c L Wn Hn lv pb xx yy W (HPP.out.on hW) ((HC.out.on HU8.out).on hW) hlt2 hlt)
            have HK_ := Lib.hid hk_
            clear ho0 ho1 ho2 hk_
            obtain ⟨i0, hi, hz0, hz1, hz2⟩ := info_parts info_hue
            go_upto_region 9 with fail
            refine Ol.way_drew (S := fun y => y.heap[q]? = some (.cells #[.int .i64 (Wn : Nat), .int .i64 (Hn : Nat), v] 39 (0, 0))) (stop := 8) (by kernel_rfl) (hr8_4) (fun hS0 => ?_)
            obtain ⟨z0, hz0_⟩ : ∃ y, y8.drew = y := ⟨_, rfl⟩
            have HA0 := Lib.hid (show Aw (fun z => z < bl ∧ z ≠ q) y6 z0 by rw [← hz0_]; exact HA.out.trans (Aw.of (Below.refl _ _).drew))
            have HO0 := Lib.hid (show z0.ownsRow bl 47 3 v k (flatc 3 (lev f Wn Hn lv L) k) by rw [← hz0_]; exact Ls.own_below HX.out (Below.refl _ _).drew)
            have HZ0 := Lib.hid (show Below y8.heap.size y8 z0 by rw [← hz0_]; exact (Below.refl _ _).drew)
            have hs0 : y8.heap.size ≤ z0.heap.size := by rw [← hz0_]; exact Nat.le_refl _
            rw [hz0_] at hS0 ⊢
            clear hz0_
            refine Ol.way_plain (i := 0) (v := ?_) rfl (by kernel_rfl) (by kernel_rfl) (by kernel_rfl) (fun _ _ _ h => h) (by decide) (Or.inl ⟨by kernel_rfl, by (intro wz _; go_simp; try with_reducible rfl)⟩) (Ol.on hS0) ?_
            go_simp
            refine Ol.way_take (i := 1) (v := ?_) rfl (by kernel_rfl) (by kernel_rfl) (by kernel_rfl) (fun _ _ _ h => h) (by decide) (by kernel_rfl) (by kernel_rfl) (Or.inl ⟨by kernel_rfl, by (intro wz hSz; have cq_ := cell_of_row _ _ 2 _ _ _ hSz; simp at cq_; go_simp; try with_reducible rfl)⟩) hS0 ?_
            go_simp
            refine Ol.way_plain (i := 2) (v := ?_) rfl (by kernel_rfl) (by kernel_rfl) (by kernel_rfl) (fun _ _ _ h => h) (by decide) (Or.inl ⟨by kernel_rfl, by (intro wz _; go_simp; try with_reducible rfl)⟩) (Ol.on hS0) ?_
            go_simp
            refine Ol.way_plain (i := 3) (v := ?_) rfl (by kernel_rfl) (by kernel_rfl) (by kernel_rfl) (fun _ _ _ h => h) (by decide) (Or.inl ⟨by kernel_rfl, by (intro wz _; go_simp; try with_reducible rfl)⟩) (Ol.on hS0) ?_
            go_simp
            refine Ol.way_ready (rs := [4]) (by kernel_rfl) (by simp) ?_
            refine Ol.Each.cons rfl (fun K hK => ?_) Ol.Each.nil
            go_simp
            go_wp2_with (go_at_call 92; refine (HSM.out _ HZ0.out).mono ?_; rintro e z1 ⟨rfl, hb1⟩)
            have HA1 := Lib.hid (HA0.out.trans (Aw.of hb1))
            have HO1 := Lib.hid (Ls.own_below HO0.out hb1)
            have hs1 := hb1.size
            refine Ol.keep hK _ _ ((hb1.block _ (lt_heap hS0)).trans hS0) (fun hS1 => ?_)
            clear hK K
            refine Ol.way_ready (rs := [5]) (by kernel_rfl) (by simp) ?_
            refine Ol.Each.cons rfl (fun K hK => ?_) Ol.Each.nil
            go_simp
            have hb2 := Ve.below_n1 z1 (.cells #[.int .i64 o0, .int .i64 o1, .int .i64 o2] 47)
            have hN2 := heap_alloc_last z1 (.cells #[.int .i64 o0, .int .i64 o1, .int .i64 o2] 47)
            obtain ⟨z2, hz2_⟩ : ∃ y, z1.alloc (.cells #[.int .i64 o0, .int .i64 o1, .int .i64 o2] 47) = y := ⟨_, rfl⟩
            rw [hz2_] at hb2 hN2 ⊢
            clear hz2_
            have HA2 := Lib.hid (HA1.out.trans (Aw.of hb2))
            have HO2 := Lib.hid (Ls.own_below HO1.out hb2)
            have hs2 := hb2.size
            refine Ol.keep hK _ _ ((hb2.block _ (lt_heap hS1)).trans hS1) (fun hS2 => ?_)
            clear hK K
            refine Ol.way_ready (rs := [6]) (by kernel_rfl) (by simp) ?_
            refine Ol.Each.cons rfl (fun K hK => ?_) Ol.Each.nil
            refine step_append_lies _ rfl _ _ 37 rfl bl 47 i0 (.agg #[.int .i64 0, .int .i64 0, .int .i64 0]) 3 24 Tryd.underlying37 hi hz0 hz1 hz2 rfl (by decide) _ _ _ rfl HO2.out ⟨z1.heap.size, 0, none⟩ 1 1 [.int .i64 o0, .int .i64 o1, .int .i64 o2] rfl rfl ?c1 ?c2 (by omega) ?c3 ?c4 ?c5 _ rfl ?_
            case c1 => exact World.news_of_block hN2
            case c2 => intro u hu; simp at hu; rcases hu with rfl | rfl | rfl <;> rfl
            case c3 => unfold maxLen; omega
            case c4 => omega
            case c5 => omega
            intro g9 cg z3 hown hgrow hgk hlt9
            have hqo := fun r hr => (HO2.out.lt r hr).1
            have HA3 := Lib.hid (HA2.out.step hgrow (fun r hr => by have := hqo r hr; omega))
            rw [← HFL.out] at hown
            have hqn : q ≠ g9 := by rcases hgk with h | h <;> first | omega | (have := hqo _ h; omega)
            have hq3 := (hgrow.block q (lt_heap hS2) (fun e => by have := hqo _ e.symm; omega)).trans hS2
            have hs3 := hgrow.size
            refine Ol.keep hK _ _ (hq3) (fun hS3 => ?_)
            clear hK K
            refine Ol.way_plain (i := 7) (v := ?_) rfl (by kernel_rfl) (by kernel_rfl) (by kernel_rfl) (fun _ _ _ h => h) (by decide) (Or.inl ⟨by kernel_rfl, by (intro wz _; go_simp; try with_reducible rfl)⟩) (Ol.on hS3) ?_
            go_simp
            refine Ol.way_ready (rs := [8]) (by kernel_rfl) (by simp) ?_
            refine Ol.Each.cons rfl (fun K hK => ?_) Ol.Each.nil
            have p0 := cell_of_row _ _ 2 _ _ _ hq3
            simp at p0
            have fz : ∀ j, z3.frozen? ⟨q, j, none⟩ = false := fun j => by simp [World.frozen?, hq3]
            go_simp
            clear fz p0
            have hN : (z3.setCell ⟨q, 2, none⟩ (.slice (some ⟨g9, 0, none⟩) (k + 1) cg)).heap[q]? = some (.cells #[.int .i64 (Wn : Nat), .int .i64 (Hn : Nat), .slice (some ⟨g9, 0, none⟩) (k + 1) cg] 39 (0, 0)) := heap_setCell_same _ _ 2 _ _ _ hq3
            have HA4 := Lib.hid (HA3.out.set (b := q) (fun h => h.2 rfl) 2 (.slice (some ⟨g9, 0, none⟩) (k + 1) cg))
            have HO4 := Lib.hid (own_via (w' := (z3.setCell ⟨q, 2, none⟩ (.slice (some ⟨g9, 0, none⟩) (k + 1) cg))) hown (fun r hr => Below.heap_setCell _ _ _ _ (by simp [Value.ownBlock] at hr; show r ≠ q; omega)))
            refine Ol.past hK (by kernel_rfl) _ _ ?_
            clear hK K
            refine Ol.way_done (by kernel_rfl) ?_ _
            go_wp2_with fail
            go_roundw
            case rel => exact ⟨xx + 1, .slice (some ⟨g9, 0, none⟩) (k + 1) cg, by omega, by go_num, hN, by rw [show yy * Wn + (xx + 1) = k + 1 by rw [HK_.out]; omega]; exact HO4, HA4⟩
            case measure => simp [intOf]; omega
          · have hge2 : ¬ (xx : Int) < Wn := by omega
            go_wp2_with fail
            go_roundw
            case rel => exact ⟨yy + 1, v, by omega, by go_num, hr8_4, by rw [show (yy + 1) * Wn = yy * Wn + xx by rw [Nat.add_mul]; omega]; exact HX, HA⟩
            case measure => simp [intOf]; omega
      · have hge : ¬ (yy : Int) < Hn := by omega
        have hnn : yy * Wn = n := by rw [show yy = Hn by omega, HN.out, Nat.mul_comm]
        rw [hnn] at HX
        obtain ⟨a9, c9, hv⟩ := own_slice HX.out
        subst hv
        have HXE := Lib.hid (rwp_own (fun b => w.heap.size ≤ b ∧ b ≠ w.heap.size + 1 + 1) HX.out (fun b h1 _ _ => ⟨by omega, by omega⟩))
        have c4_0 := cell_of_row _ _ 0 _ _ _ hr7_4
        have c4_1 := cell_of_row _ _ 1 _ _ _ hr7_4
        have c4_2 := cell_of_row _ _ 2 _ _ _ hr7_4
        simp at c4_0 c4_1 c4_2
        go_upto_region 12 with fail
        have hHr := Lib.hid hr7_2
        have hHi := Lib.hid (show (Tryd.prog.info? 39).map (·.size) = some (#[.int .i64 (Wn : Nat), .int .i64 (Hn : Nat), .slice a9 n c9] : Array Value).size by kernel_rfl)
        have hHz := Lib.hid (show (#[.int .i64 0, .int .i64 0, .slice none 0 0] : Array Value).size = (#[.int .i64 (Wn : Nat), .int .i64 (Hn : Nat), .slice a9 n c9] : Array Value).size from rfl)
        have hHo := Lib.hid (show (#[.int .i64 (Wn : Nat), .int .i64 (Hn : Nat), .slice a9 n c9] : Array Value).all (·.oneCell') = true by simp [Value.oneCell'])
        go_wp2_with (first | (refine Au.wpList_store_row rfl 39 (.tmp 6) (.tmp 44) rfl y7 #[.int .i64 0, .int .i64 0, .slice none 0 0] #[.int .i64 (Wn : Nat), .int .i64 (Hn : Nat), .slice a9 n c9] (w.heap.size + 1 + 1) 39 hHr.out rfl rfl hHi.out hHz.out hHo.out ?_))
        clear c4_0 c4_1 c4_2
        clear hHr hHi hHz hHo
        have hN := setRow_heap _ (w.heap.size + 1 + 1) _ #[.int .i64 (Wn : Nat), .int .i64 (Hn : Nat), .slice a9 n c9] _ _ hr7_2
        have hsz := HU7.out.size
        have HUx := below_setRow (g := w.heap.size + 1 + 1) HU7.out (by first | omega | (simp at *; omega)) #[.int .i64 (Wn : Nat), .int .i64 (Hn : Nat), .slice a9 n c9]
        have hO : ∀ kk, kk ≠ w.heap.size + 1 + 1 → (y7.setRow (w.heap.size + 1 + 1) #[.int .i64 (Wn : Nat), .int .i64 (Hn : Nat), .slice a9 n c9]).heap[kk]? = y7.heap[kk]? := fun kk hk => setRow_other _ _ _ _ hk
        obtain ⟨y8, hy8⟩ : ∃ y, y7.setRow (w.heap.size + 1 + 1) #[.int .i64 (Wn : Nat), .int .i64 (Hn : Nat), .slice a9 n c9] = y := ⟨_, rfl⟩
        rw [hy8] at hN HUx hO ⊢
        clear hy8 hsz
        have HU8 := Lib.hid HUx
        clear HUx
        have hr8_0 := (hO _ (by omega)).trans hr7_0
        have hr8_1 := (hO _ (by omega)).trans hr7_1
        have hr8_2 := hN
        have hr8_3 := (hO _ (by omega)).trans hr7_3
        have hr8_4 := (hO _ (by omega)).trans hr7_4
        have HXF := Lib.hid ((HXE.out.keep (fun b hb => hO b (by omega))).weak (P' := fun b => w.heap.size ≤ b) (fun b hb => hb.1))
        clear hN hO
        clear hr7_0 hr7_1 hr7_2 hr7_3 hr7_4 HU7
        have c2_0 := cell_of_row _ _ 0 _ _ _ hr8_2
        have c2_1 := cell_of_row _ _ 1 _ _ _ hr8_2
        have c2_2 := cell_of_row _ _ 2 _ _ _ hr8_2
        simp at c2_0 c2_1 c2_2
        go_wp2
        exact bodyPost_ret (v := .agg #[.int .i64 (Wn : Nat), .int .i64 (Hn : Nat), .slice a9 n c9]) (by simp [results, Tryd.results53, go_sem, c2_0, c2_1, c2_2]) rfl (by first | exact ⟨⟨a9, c9, rfl, HXF.out⟩, HU8.out⟩ | exact ⟨⟨a9, ⟨c9, rfl⟩, HXF.out⟩, HU8.out⟩)

end Go.Proofs.YtpinpkhalccjhaaDoor.Fm
