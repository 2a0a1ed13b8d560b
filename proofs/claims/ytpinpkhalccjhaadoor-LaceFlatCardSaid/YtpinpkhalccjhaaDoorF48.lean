/- Lights smoothed: what the laws share. -/
import Derived.Test.YtpinpkhalccjhaaDoorF47
import Derived.Test.YtpinpkhalccjhaaDoorF12
import Derived.Laws.StructEq
namespace Go.Proofs.YtpinpkhalccjhaaDoor.Fm
open Go Go.RowKit Go.Proofs.YtpinpkhalccjhaaDoor Go.Proofs.YtpinpkhalccjhaaDoor.Rp Go.Proofs.YtpinpkhalccjhaaDoor.Re Go.Proofs.YtpinpkhalccjhaaDoor.Au Go.Proofs.YtpinpkhalccjhaaDoor.Jw
set_option linter.unusedVariables false
set_option linter.unusedSimpArgs false

set_option maxHeartbeats 4000000 in
set_option maxRecDepth 100000 in
theorem light20_0 (f : Flm) (p : Pl) (W3 H3 : Int) (a : Option Addr) (n c : Nat) (L : Nat → Int) (w : World)  (k0 : ¬ f.nl ≤ 100) : Calls Tryd.prog 11 #[.agg (FC f p), .agg #[.int .i64 W3, .int .i64 H3, .slice a n c]] w fun e' w' => e' = .returned (.bool false) ∧ Below w.heap.size w w' := by
  have d0 : decide ((f.nl : Int) ≤ 100) = false := decide_eq_false (by omega)
  clear k0
  go_enter Tryd.func11, Tryd.ntmps11
  go_upto_region 1 with fail
  have hR := Au.rows2 w (.cells (FC f p) 29) (.cells #[.int .i64 W3, .int .i64 H3, .slice a n c] 24)
  have HUx := Ve.below_n2 w (.cells (FC f p) 29) (.cells #[.int .i64 W3, .int .i64 H3, .slice a n c] 24)
  obtain ⟨y0, hy0⟩ : ∃ y0, (w.alloc (.cells (FC f p) 29)).alloc (.cells #[.int .i64 W3, .int .i64 H3, .slice a n c] 24) = y0 := ⟨_, rfl⟩
  rw [hy0] at hR HUx ⊢
  clear hy0
  have HU0 := Lib.hid HUx
  clear HUx
  obtain ⟨hr0_0, hr0_1⟩ := hR
  have c0_0 := cell_of_row _ _ 0 _ _ _ hr0_0
  have c0_1 := cell_of_row _ _ 1 _ _ _ hr0_0
  have c0_2 := cell_of_row _ _ 2 _ _ _ hr0_0
  have c0_3 := cell_of_row _ _ 3 _ _ _ hr0_0
  have c0_4 := cell_of_row _ _ 4 _ _ _ hr0_0
  have c0_5 := cell_of_row _ _ 5 _ _ _ hr0_0
  have c0_6 := cell_of_row _ _ 6 _ _ _ hr0_0
  have c0_7 := cell_of_row _ _ 7 _ _ _ hr0_0
  simp at c0_0 c0_1 c0_2 c0_3 c0_4 c0_5 c0_6 c0_7
  have c1_0 := cell_of_row _ _ 0 _ _ _ hr0_1
  have c1_1 := cell_of_row _ _ 1 _ _ _ hr0_1
  have c1_2 := cell_of_row _ _ 2 _ _ _ hr0_1
  simp at c1_0 c1_1 c1_2
  go_wp2
  go_ret
  exact ⟨rfl, HU0.out⟩

set_option maxHeartbeats 4000000 in
set_option maxRecDepth 100000 in
theorem light20_1 (f : Flm) (p : Pl) (W3 H3 : Int) (a : Option Addr) (n c : Nat) (L : Nat → Int) (w : World)  (k0 : f.nl ≤ 100) (k1 : ¬ f.ns ≤ 100) : Calls Tryd.prog 11 #[.agg (FC f p), .agg #[.int .i64 W3, .int .i64 H3, .slice a n c]] w fun e' w' => e' = .returned (.bool false) ∧ Below w.heap.size w w' := by
  have d0 : decide ((f.nl : Int) ≤ 100) = true := decide_eq_true (by omega)
  clear k0
  have d1 : decide ((f.ns : Int) ≤ 100) = false := decide_eq_false (by omega)
  clear k1
  go_enter Tryd.func11, Tryd.ntmps11
  go_upto_region 1 with fail
  have hR := Au.rows2 w (.cells (FC f p) 29) (.cells #[.int .i64 W3, .int .i64 H3, .slice a n c] 24)
  have HUx := Ve.below_n2 w (.cells (FC f p) 29) (.cells #[.int .i64 W3, .int .i64 H3, .slice a n c] 24)
  obtain ⟨y0, hy0⟩ : ∃ y0, (w.alloc (.cells (FC f p) 29)).alloc (.cells #[.int .i64 W3, .int .i64 H3, .slice a n c] 24) = y0 := ⟨_, rfl⟩
  rw [hy0] at hR HUx ⊢
  clear hy0
  have HU0 := Lib.hid HUx
  clear HUx
  obtain ⟨hr0_0, hr0_1⟩ := hR
  have c0_0 := cell_of_row _ _ 0 _ _ _ hr0_0
  have c0_1 := cell_of_row _ _ 1 _ _ _ hr0_0
  have c0_2 := cell_of_row _ _ 2 _ _ _ hr0_0
  have c0_3 := cell_of_row _ _ 3 _ _ _ hr0_0
  have c0_4 := cell_of_row _ _ 4 _ _ _ hr0_0
  have c0_5 := cell_of_row _ _ 5 _ _ _ hr0_0
  have c0_6 := cell_of_row _ _ 6 _ _ _ hr0_0
  have c0_7 := cell_of_row _ _ 7 _ _ _ hr0_0
  simp at c0_0 c0_1 c0_2 c0_3 c0_4 c0_5 c0_6 c0_7
  have c1_0 := cell_of_row _ _ 0 _ _ _ hr0_1
  have c1_1 := cell_of_row _ _ 1 _ _ _ hr0_1
  have c1_2 := cell_of_row _ _ 2 _ _ _ hr0_1
  simp at c1_0 c1_1 c1_2
  go_wp2
  go_ret
  exact ⟨rfl, HU0.out⟩

set_option maxHeartbeats 4000000 in
set_option maxRecDepth 100000 in
theorem light20_2 (f : Flm) (p : Pl) (W3 H3 : Int) (a : Option Addr) (n c : Nat) (L : Nat → Int) (w : World)  (k0 : f.nl ≤ 100) (k1 : f.ns ≤ 100) (k2 : ¬ n ≤ 100) : Calls Tryd.prog 11 #[.agg (FC f p), .agg #[.int .i64 W3, .int .i64 H3, .slice a n c]] w fun e' w' => e' = .returned (.bool false) ∧ Below w.heap.size w w' := by
  have d0 : decide ((f.nl : Int) ≤ 100) = true := decide_eq_true (by omega)
  clear k0
  have d1 : decide ((f.ns : Int) ≤ 100) = true := decide_eq_true (by omega)
  clear k1
  have d2 : decide ((n : Int) ≤ 100) = false := decide_eq_false (by omega)
  clear k2
  go_enter Tryd.func11, Tryd.ntmps11
  go_upto_region 1 with fail
  have hR := Au.rows2 w (.cells (FC f p) 29) (.cells #[.int .i64 W3, .int .i64 H3, .slice a n c] 24)
  have HUx := Ve.below_n2 w (.cells (FC f p) 29) (.cells #[.int .i64 W3, .int .i64 H3, .slice a n c] 24)
  obtain ⟨y0, hy0⟩ : ∃ y0, (w.alloc (.cells (FC f p) 29)).alloc (.cells #[.int .i64 W3, .int .i64 H3, .slice a n c] 24) = y0 := ⟨_, rfl⟩
  rw [hy0] at hR HUx ⊢
  clear hy0
  have HU0 := Lib.hid HUx
  clear HUx
  obtain ⟨hr0_0, hr0_1⟩ := hR
  have c0_0 := cell_of_row _ _ 0 _ _ _ hr0_0
  have c0_1 := cell_of_row _ _ 1 _ _ _ hr0_0
  have c0_2 := cell_of_row _ _ 2 _ _ _ hr0_0
  have c0_3 := cell_of_row _ _ 3 _ _ _ hr0_0
  have c0_4 := cell_of_row _ _ 4 _ _ _ hr0_0
  have c0_5 := cell_of_row _ _ 5 _ _ _ hr0_0
  have c0_6 := cell_of_row _ _ 6 _ _ _ hr0_0
  have c0_7 := cell_of_row _ _ 7 _ _ _ hr0_0
  simp at c0_0 c0_1 c0_2 c0_3 c0_4 c0_5 c0_6 c0_7
  have c1_0 := cell_of_row _ _ 0 _ _ _ hr0_1
  have c1_1 := cell_of_row _ _ 1 _ _ _ hr0_1
  have c1_2 := cell_of_row _ _ 2 _ _ _ hr0_1
  simp at c1_0 c1_1 c1_2
  go_wp2
  go_ret
  exact ⟨rfl, HU0.out⟩

set_option maxHeartbeats 4000000 in
set_option maxRecDepth 100000 in
theorem light20_3 (f : Flm) (p : Pl) (W3 H3 : Int) (a : Option Addr) (n c : Nat) (L : Nat → Int) (w : World)  (k0 : f.nl ≤ 100) (k1 : f.ns ≤ 100) (k2 : n ≤ 100) : Calls Tryd.prog 11 #[.agg (FC f p), .agg #[.int .i64 W3, .int .i64 H3, .slice a n c]] w fun e' w' => e' = .returned (.bool true) ∧ Below w.heap.size w w' := by
  have d0 : decide ((f.nl : Int) ≤ 100) = true := decide_eq_true (by omega)
  clear k0
  have d1 : decide ((f.ns : Int) ≤ 100) = true := decide_eq_true (by omega)
  clear k1
  have d2 : decide ((n : Int) ≤ 100) = true := decide_eq_true (by omega)
  clear k2
  go_enter Tryd.func11, Tryd.ntmps11
  go_upto_region 1 with fail
  have hR := Au.rows2 w (.cells (FC f p) 29) (.cells #[.int .i64 W3, .int .i64 H3, .slice a n c] 24)
  have HUx := Ve.below_n2 w (.cells (FC f p) 29) (.cells #[.int .i64 W3, .int .i64 H3, .slice a n c] 24)
  obtain ⟨y0, hy0⟩ : ∃ y0, (w.alloc (.cells (FC f p) 29)).alloc (.cells #[.int .i64 W3, .int .i64 H3, .slice a n c] 24) = y0 := ⟨_, rfl⟩
  rw [hy0] at hR HUx ⊢
  clear hy0
  have HU0 := Lib.hid HUx
  clear HUx
  obtain ⟨hr0_0, hr0_1⟩ := hR
  have c0_0 := cell_of_row _ _ 0 _ _ _ hr0_0
  have c0_1 := cell_of_row _ _ 1 _ _ _ hr0_0
  have c0_2 := cell_of_row _ _ 2 _ _ _ hr0_0
  have c0_3 := cell_of_row _ _ 3 _ _ _ hr0_0
  have c0_4 := cell_of_row _ _ 4 _ _ _ hr0_0
  have c0_5 := cell_of_row _ _ 5 _ _ _ hr0_0
  have c0_6 := cell_of_row _ _ 6 _ _ _ hr0_0
  have c0_7 := cell_of_row _ _ 7 _ _ _ hr0_0
  simp at c0_0 c0_1 c0_2 c0_3 c0_4 c0_5 c0_6 c0_7
  have c1_0 := cell_of_row _ _ 0 _ _ _ hr0_1
  have c1_1 := cell_of_row _ _ 1 _ _ _ hr0_1
  have c1_2 := cell_of_row _ _ 2 _ _ _ hr0_1
  simp at c1_0 c1_1 c1_2
  go_wp2
  go_ret
  exact ⟨rfl, HU0.out⟩

theorem acc_skip {f : Flm} {L : Nat → Int} {W H lv x y a : Nat} : ∀ k, (∀ m, a ≤ m → m < a + k → ¬ ins W H (px x lv m) (py y lv m)) → acc f L W H lv x y (a + k) = acc f L W H lv x y a
  | 0, _ => rfl
  | k + 1, h => by
    rw [show a + (k + 1) = (a + k) + 1 by omega, acc_out (h (a + k) (by omega) (by omega))]
    exact acc_skip k (fun m h1 h2 => h m h1 (by omega))

theorem one_out {lv m : Nat} (hlv : lv < 5) (hm : m < 25) (h : m ≠ 12) : ¬ ins 1 1 (px 0 lv m) (py 0 lv m) := by
  intro hi
  have hb := pow_bd hlv
  obtain ⟨⟨h1, h2⟩, h3, h4⟩ := hi
  unfold px at h1 h2
  unfold py at h3 h4
  obtain ⟨p, hp⟩ : ∃ p, p = (2 : Int) ^ lv := ⟨_, rfl⟩
  rw [← hp] at hb h1 h2 h3 h4
  have hc : m % 5 = 0 ∨ m % 5 = 1 ∨ m % 5 = 2 ∨ m % 5 = 3 ∨ m % 5 = 4 := by omega
  have hr : m / 5 = 0 ∨ m / 5 = 1 ∨ m / 5 = 2 ∨ m / 5 = 3 ∨ m / 5 = 4 := by omega
  rcases hc with hc | hc | hc | hc | hc <;> rcases hr with hr | hr | hr | hr | hr <;> rw [hc] at h1 h2 <;> rw [hr] at h3 h4 <;> omega

theorem one_in {lv : Nat} : ins 1 1 (px 0 lv 12) (py 0 lv 12) ∧ pn 1 (px 0 lv 12) (py 0 lv 12) = 0 := by
  have e1 : px 0 lv 12 = 0 := by unfold px; simp
  have e2 : py 0 lv 12 = 0 := by unfold py; simp
  rw [e1, e2]
  exact ⟨⟨⟨by omega, by omega⟩, by omega, by omega⟩, rfl⟩

theorem one_acc (f : Flm) (L : Nat → Int) (lv : Nat) (hlv : lv < 5) (h0 : L 0 = 65536) (h1 : L 1 = 65536) (h2 : L 2 = 65536) : acc f L 1 1 lv 0 0 25 = ⟨2359296, 2359296, 2359296, 2359296⟩ := by
  rw [show 25 = 13 + 12 from rfl, acc_skip 12 (fun m a b => one_out hlv (by omega) (by omega)), show 13 = 12 + 1 from rfl, acc_in one_in.1, one_in.2, show 12 = 0 + 12 from rfl, acc_skip 12 (fun m a b => one_out hlv (by omega) (by omega))]
  unfold mw
  rw [show wgt f L lv (0 * 1 + 0) 0 = 65536 from if_pos rfl]
  unfold stp acc
  simp only [Nat.zero_mul, Nat.zero_add, h0, h1, h2]
  refine congr (congr (congr (congrArg Ac.mk ?_) ?_) ?_) ?_ <;> decide

theorem one_lev (f : Flm) (L : Nat → Int) (lv : Nat) (hlv : lv < 5) (h0 : L 0 = 65536) (h1 : L 1 = 65536) (h2 : L 2 = 65536) : ∀ j, j < 3 → lev f 1 1 lv L j = 65536 := by
  have ha := one_acc f L lv hlv h0 h1 h2
  intro j hj
  match j, hj with
  | 0, _ => rw [show lev f 1 1 lv L 0 = sm0 f L 1 1 lv 0 0 from rfl]; unfold sm0; rw [ha]; decide
  | 1, _ => rw [show lev f 1 1 lv L 1 = sm1 f L 1 1 lv 0 0 from rfl]; unfold sm1; rw [ha]; decide
  | 2, _ => rw [show lev f 1 1 lv L 2 = sm2 f L 1 1 lv 0 0 from rfl]; unfold sm2; rw [ha]; decide

theorem one_lvs (f : Flm) (L : Nat → Int) (h : ∀ j, j < 3 → L j = 65536) : ∀ n, n ≤ 5 → ∀ j, j < 3 → lvs f 1 1 L n j = 65536
  | 0, _ => h
  | n + 1, hn => by
    have ih := one_lvs f L h n (by omega)
    exact one_lev f _ n (by omega) (ih 0 (by omega)) (ih 1 (by omega)) (ih 2 (by omega))

theorem rows5 (w : World) (a b c d e : Obj) : (((((w.alloc a).alloc b).alloc c).alloc d).alloc e).heap[w.heap.size]? = some a ∧ (((((w.alloc a).alloc b).alloc c).alloc d).alloc e).heap[w.heap.size + 1]? = some b ∧ (((((w.alloc a).alloc b).alloc c).alloc d).alloc e).heap[w.heap.size + 1 + 1]? = some c ∧ (((((w.alloc a).alloc b).alloc c).alloc d).alloc e).heap[w.heap.size + 1 + 1 + 1]? = some d ∧ (((((w.alloc a).alloc b).alloc c).alloc d).alloc e).heap[w.heap.size + 1 + 1 + 1 + 1]? = some e :=
  ⟨old _ (rows4 w a b c d).1, old _ (rows4 w a b c d).2.1, old _ (rows4 w a b c d).2.2.1, old _ (rows4 w a b c d).2.2.2, by have h := rows1 ((((w.alloc a).alloc b).alloc c).alloc d) e; rwa [show ((((w.alloc a).alloc b).alloc c).alloc d).heap.size = w.heap.size + 1 + 1 + 1 + 1 by simp] at h⟩

theorem rows6 (w : World) (a b c d e f : Obj) : ((((((w.alloc a).alloc b).alloc c).alloc d).alloc e).alloc f).heap[w.heap.size]? = some a ∧ ((((((w.alloc a).alloc b).alloc c).alloc d).alloc e).alloc f).heap[w.heap.size + 1]? = some b ∧ ((((((w.alloc a).alloc b).alloc c).alloc d).alloc e).alloc f).heap[w.heap.size + 1 + 1]? = some c ∧ ((((((w.alloc a).alloc b).alloc c).alloc d).alloc e).alloc f).heap[w.heap.size + 1 + 1 + 1]? = some d ∧ ((((((w.alloc a).alloc b).alloc c).alloc d).alloc e).alloc f).heap[w.heap.size + 1 + 1 + 1 + 1]? = some e ∧ ((((((w.alloc a).alloc b).alloc c).alloc d).alloc e).alloc f).heap[w.heap.size + 1 + 1 + 1 + 1 + 1]? = some f :=
  ⟨old _ (rows5 w a b c d e).1, old _ (rows5 w a b c d e).2.1, old _ (rows5 w a b c d e).2.2.1, old _ (rows5 w a b c d e).2.2.2.1, old _ (rows5 w a b c d e).2.2.2.2, by have h := rows1 (((((w.alloc a).alloc b).alloc c).alloc d).alloc e) f; rwa [show (((((w.alloc a).alloc b).alloc c).alloc d).alloc e).heap.size = w.heap.size + 1 + 1 + 1 + 1 + 1 by simp] at h⟩

theorem rows7 (w : World) (a b c d e f g : Obj) : (((((((w.alloc a).alloc b).alloc c).alloc d).alloc e).alloc f).alloc g).heap[w.heap.size]? = some a ∧ (((((((w.alloc a).alloc b).alloc c).alloc d).alloc e).alloc f).alloc g).heap[w.heap.size + 1]? = some b ∧ (((((((w.alloc a).alloc b).alloc c).alloc d).alloc e).alloc f).alloc g).heap[w.heap.size + 1 + 1]? = some c ∧ (((((((w.alloc a).alloc b).alloc c).alloc d).alloc e).alloc f).alloc g).heap[w.heap.size + 1 + 1 + 1]? = some d ∧ (((((((w.alloc a).alloc b).alloc c).alloc d).alloc e).alloc f).alloc g).heap[w.heap.size + 1 + 1 + 1 + 1]? = some e ∧ (((((((w.alloc a).alloc b).alloc c).alloc d).alloc e).alloc f).alloc g).heap[w.heap.size + 1 + 1 + 1 + 1 + 1]? = some f ∧ (((((((w.alloc a).alloc b).alloc c).alloc d).alloc e).alloc f).alloc g).heap[w.heap.size + 1 + 1 + 1 + 1 + 1 + 1]? = some g :=
  ⟨old _ (rows6 w a b c d e f).1, old _ (rows6 w a b c d e f).2.1, old _ (rows6 w a b c d e f).2.2.1, old _ (rows6 w a b c d e f).2.2.2.1, old _ (rows6 w a b c d e f).2.2.2.2.1, old _ (rows6 w a b c d e f).2.2.2.2.2, by have h := rows1 ((((((w.alloc a).alloc b).alloc c).alloc d).alloc e).alloc f) g; rwa [show ((((((w.alloc a).alloc b).alloc c).alloc d).alloc e).alloc f).heap.size = w.heap.size + 1 + 1 + 1 + 1 + 1 + 1 by simp] at h⟩

theorem below_m5 (w : World) (a b c d e : Obj) : Below w.heap.size w (((((w.alloc a).alloc b).alloc c).alloc d).alloc e) := (Ve.below_n4 w a b c d).alloc (by simp; try omega) e

theorem below_m6 (w : World) (a b c d e f : Obj) : Below w.heap.size w ((((((w.alloc a).alloc b).alloc c).alloc d).alloc e).alloc f) := (below_m5 w a b c d e).alloc (by simp; try omega) f

theorem below_m7 (w : World) (a b c d e f g : Obj) : Below w.heap.size w (((((((w.alloc a).alloc b).alloc c).alloc d).alloc e).alloc f).alloc g) := (below_m6 w a b c d e f).alloc (by simp; try omega) g

theorem eq_hue (x y z : Int) (w : World) : (Op.equalIn 10000 47 (.agg #[.int .i64 x, .int .i64 y, .int .i64 z]) (.agg #[.int .i64 x, .int .i64 y, .int .i64 z])).run Tryd.prog w = .ok true w := by
  rw [run_equalIn_struct w 9999 47 _ _ (by kernel_rfl) (by kernel_rfl)]
  simp only [Program.fieldsOf, Tryd.underlying47, Op.eqFields]
  simp [go_sem]

theorem rw_block1 {w : World} {b : Nat} {v : Int} {t : TypeId} (h : w.heap[b]? = some (.cells #[.int .i64 v] t (0, 0))) : Rw 1 w (some ⟨b, 0, none⟩) 1 (fun _ => v) :=
  .inr ⟨b, 0, rfl, lt_heap h, fun j hj => by obtain rfl : j = 0 := by omega
                                             exact cell_of_row _ _ 0 _ _ _ h⟩

theorem rw_block3 {w : World} {b : Nat} {v : Int} {t : TypeId} (h : w.heap[b]? = some (.cells #[.int .i64 v, .int .i64 v, .int .i64 v] t (0, 0))) : Rw 3 w (some ⟨b, 0, none⟩) 1 (fun _ => v) :=
  .inr ⟨b, 0, rfl, lt_heap h, fun j hj => by
    match j, hj with
    | 0, _ => exact cell_of_row _ _ 0 _ _ _ h
    | 1, _ => exact cell_of_row _ _ 1 _ _ _ h
    | 2, _ => exact cell_of_row _ _ 2 _ _ _ h⟩

/-- the document's example: a film of one pixel -/
def one (x : Int) : Flm := ⟨1, 1, 1, 1, 1, 1, 1, 1, fun _ => x, fun _ => 0, fun _ => 0, fun _ => 0, fun _ => -1, fun _ => -1⟩

theorem one_ok (x : Int) : okF (one x) := by
  refine ⟨⟨⟨by simp [one], by simp [one], by simp [one], by simp [one]⟩, by simp [one]⟩, by simp [one], by simp [one], by simp [one], ⟨by simp [one], fun j _ => ⟨by show (-1 : Int) ≤ -1; omega, by show (-1 : Int) ≤ 127; omega⟩⟩, ⟨by simp [one], fun j _ => ⟨by show (-1 : Int) ≤ -1; omega, by show (-1 : Int) ≤ 1 * 1 - 1; omega⟩⟩⟩

set_option maxHeartbeats 8000000 in
set_option maxRecDepth 100000 in
theorem lawake_any  (w : World) (hcn : Cnt w) : Calls Tryd.prog 13 #[] w fun e' w' => e' = .returned (.bool true) ∧ Below w.heap.size w w' := by
  have HC := Lib.hid hcn
  clear hcn
  go_enter Tryd.func13, Tryd.ntmps13
  go_wp2_with fail
  refine (He.gray_any 65536 _).mono ?_
  rintro e z ⟨rfl, hbz⟩
  go_upto_region 2 with fail
  have hR := rows7 z (.cells #[.int .i64 65536, .int .i64 65536, .int .i64 65536] 47) (.cells #[.int .i64 0] 45) (.cells #[.int .i64 0, .int .i64 0, .int .i64 0] 105) (.cells #[.int .i64 0, .int .i64 0, .int .i64 0] 47) (.cells #[.int .i64 (-1)] 3) (.cells #[.int .i64 (-1)] 3) (.cells #[.int .i64 1, .int .i64 1, .slice (some ⟨z.heap.size, 0, none⟩) 1 1, .slice (some ⟨z.heap.size + 1, 0, none⟩) 1 1, .slice (some ⟨z.heap.size + 1 + 1, 0, none⟩) 1 1, .slice (some ⟨z.heap.size + 1 + 1 + 1, 0, none⟩) 1 1, .slice (some ⟨z.heap.size + 1 + 1 + 1 + 1, 0, none⟩) 1 1, .slice (some ⟨z.heap.size + 1 + 1 + 1 + 1 + 1, 0, none⟩) 1 1] 43)
  have HUx := hbz.trans ((below_m7 z (.cells #[.int .i64 65536, .int .i64 65536, .int .i64 65536] 47) (.cells #[.int .i64 0] 45) (.cells #[.int .i64 0, .int .i64 0, .int .i64 0] 105) (.cells #[.int .i64 0, .int .i64 0, .int .i64 0] 47) (.cells #[.int .i64 (-1)] 3) (.cells #[.int .i64 (-1)] 3) (.cells #[.int .i64 1, .int .i64 1, .slice (some ⟨z.heap.size, 0, none⟩) 1 1, .slice (some ⟨z.heap.size + 1, 0, none⟩) 1 1, .slice (some ⟨z.heap.size + 1 + 1, 0, none⟩) 1 1, .slice (some ⟨z.heap.size + 1 + 1 + 1, 0, none⟩) 1 1, .slice (some ⟨z.heap.size + 1 + 1 + 1 + 1, 0, none⟩) 1 1, .slice (some ⟨z.heap.size + 1 + 1 + 1 + 1 + 1, 0, none⟩) 1 1] 43)).mono hbz.size)
  obtain ⟨y0, hy0⟩ : ∃ y0, ((((((z.alloc (.cells #[.int .i64 65536, .int .i64 65536, .int .i64 65536] 47)).alloc (.cells #[.int .i64 0] 45)).alloc (.cells #[.int .i64 0, .int .i64 0, .int .i64 0] 105)).alloc (.cells #[.int .i64 0, .int .i64 0, .int .i64 0] 47)).alloc (.cells #[.int .i64 (-1)] 3)).alloc (.cells #[.int .i64 (-1)] 3)).alloc (.cells #[.int .i64 1, .int .i64 1, .slice (some ⟨z.heap.size, 0, none⟩) 1 1, .slice (some ⟨z.heap.size + 1, 0, none⟩) 1 1, .slice (some ⟨z.heap.size + 1 + 1, 0, none⟩) 1 1, .slice (some ⟨z.heap.size + 1 + 1 + 1, 0, none⟩) 1 1, .slice (some ⟨z.heap.size + 1 + 1 + 1 + 1, 0, none⟩) 1 1, .slice (some ⟨z.heap.size + 1 + 1 + 1 + 1 + 1, 0, none⟩) 1 1] 43) = y0 := ⟨_, rfl⟩
  rw [hy0] at hR HUx ⊢
  clear hy0
  obtain ⟨b0, hb0⟩ : ∃ b, b = z.heap.size := ⟨_, rfl⟩
  rw [← hb0] at hR ⊢
  clear hb0 hbz
  have HU0 := Lib.hid HUx
  clear HUx
  obtain ⟨h0, h1, h2, h3, h4, h5, hr0_0⟩ := hR
  have HAT := Lib.hid (show FAt y0 (one 65536) (⟨some ⟨b0, 0, none⟩, 1, some ⟨b0 + 1, 0, none⟩, 1, some ⟨b0 + 1 + 1, 0, none⟩, 1, some ⟨b0 + 1 + 1 + 1, 0, none⟩, 1, some ⟨b0 + 1 + 1 + 1 + 1, 0, none⟩, 1, some ⟨b0 + 1 + 1 + 1 + 1 + 1, 0, none⟩, 1⟩ : Pl) from ⟨rw_block3 h0, rw_block1 h1, rw_block3 h2, rw_block3 h3, rw_block1 h4, rw_block1 h5⟩)
  clear h0 h1 h2 h3 h4 h5
  have c0_0 := cell_of_row _ _ 0 _ _ _ hr0_0
  have c0_1 := cell_of_row _ _ 1 _ _ _ hr0_0
  have c0_2 := cell_of_row _ _ 2 _ _ _ hr0_0
  have c0_3 := cell_of_row _ _ 3 _ _ _ hr0_0
  have c0_4 := cell_of_row _ _ 4 _ _ _ hr0_0
  have c0_5 := cell_of_row _ _ 5 _ _ _ hr0_0
  have c0_6 := cell_of_row _ _ 6 _ _ _ hr0_0
  have c0_7 := cell_of_row _ _ 7 _ _ _ hr0_0
  simp at c0_0 c0_1 c0_2 c0_3 c0_4 c0_5 c0_6 c0_7
  go_wp2_with fail
  refine ((show Calls _ _ _ _ (fun e w' => (∃ a' c', e = .returned (.tuple #[.agg #[.int .i64 1, .int .i64 1, .slice a' 1 c'], .int .i64 0]) ∧ RwP (fun b => y0.heap.size ≤ b) 3 w' a' 1 (lvs (one 65536) 1 1 (fun _ => 65536) 5)) ∧ Below y0.heap.size y0 w') from smooth_ok (one 65536) (⟨some ⟨b0, 0, none⟩, 1, some ⟨b0 + 1, 0, none⟩, 1, some ⟨b0 + 1 + 1, 0, none⟩, 1, some ⟨b0 + 1 + 1 + 1, 0, none⟩, 1, some ⟨b0 + 1 + 1 + 1 + 1, 0, none⟩, 1, some ⟨b0 + 1 + 1 + 1 + 1 + 1, 0, none⟩, 1⟩ : Pl) (some ⟨b0, 0, none⟩) 1 1 (fun _ => 65536) 1 1 _ HAT.out HAT.out.l rfl rfl ⟨one_ok 65536, ⟨⟨by decide, by decide, by decide, by decide⟩, by decide⟩, rfl, rfl⟩ rfl (HC.out.on HU0.out))).mono ?_
  rintro e y1 ⟨⟨a9, c9, rfl, how⟩, hb1⟩
  clear c0_0 c0_1 c0_2 c0_3 c0_4 c0_5 c0_6 c0_7
  have hr1_0 := (hb1.block _ (lt_heap hr0_0)).trans hr0_0
  have HU1 := Lib.hid (HU0.out.trans (hb1.mono HU0.out.size))
  clear hr0_0 HU0
  have HX1 := Lib.hid (how.rw (by decide))
  clear how HAT
  go_upto_region 3 with fail
  have hb2 := Ve.below_n1 y1 (.cells #[.int .i64 1, .int .i64 1, .slice a9 1 c9] 39)
  have hN := heap_alloc_last y1 (.cells #[.int .i64 1, .int .i64 1, .slice a9 1 c9] 39)
  obtain ⟨y2, hy2⟩ : ∃ y, y1.alloc (.cells #[.int .i64 1, .int .i64 1, .slice a9 1 c9] 39) = y := ⟨_, rfl⟩
  have hs2 : y2.heap.size = y1.heap.size + 1 := by rw [← hy2]; simp
  rw [hy2] at hb2 hN ⊢
  clear hy2
  have hl2_0 := lt_heap hr1_0
  have hr2_0 := (hb2.block _ (lt_heap hr1_0)).trans hr1_0
  have HU2 := Lib.hid (HU1.out.trans (hb2.mono HU1.out.size))
  clear hr1_0 HU1
  have hr2_1 := hN
  clear hN
  obtain ⟨g2, o2, hga, el0, el1, el2⟩ := (HX1.out.on hb2).at3 (k := 0) (by omega)
  subst hga
  clear HX1
  rw [one_lvs (one 65536) (fun _ => 65536) (fun _ _ => rfl) 5 (by omega) _ (by omega)] at el0 el1 el2
  simp only [Nat.zero_mul, Nat.add_zero] at el0 el1 el2
  have hee := fun W => eq_hue 65536 65536 65536 W
  refine wp_region_held_drew (S := fun y => y.heap[y1.heap.size]? = some (.cells #[.int .i64 1, .int .i64 1, .slice (some ⟨g2, o2, none⟩) 1 c9] 39 (0, 0)) ∧ y.cell? ⟨g2, o2, none⟩ = some (.int .i64 65536) ∧ y.cell? ⟨g2, o2 + 1, none⟩ = some (.int .i64 65536) ∧ y.cell? ⟨g2, o2 + 2, none⟩ = some (.int .i64 65536)) (by kernel_rfl) (⟨hr2_1, el0, el1, el2⟩) (fun hS0 => ?_)
  obtain ⟨y3, hy3⟩ : ∃ y, y2.drew = y := ⟨_, rfl⟩
  have HU3 := Lib.hid (show Below w.heap.size w y3 by rw [← hy3]; exact HU2.out.drew)
  have hr3_0 : y3.heap[b0 + 1 + 1 + 1 + 1 + 1 + 1]? = some (.cells #[.int .i64 1, .int .i64 1, .slice (some ⟨b0, 0, none⟩) 1 1, .slice (some ⟨b0 + 1, 0, none⟩) 1 1, .slice (some ⟨b0 + 1 + 1, 0, none⟩) 1 1, .slice (some ⟨b0 + 1 + 1 + 1, 0, none⟩) 1 1, .slice (some ⟨b0 + 1 + 1 + 1 + 1, 0, none⟩) 1 1, .slice (some ⟨b0 + 1 + 1 + 1 + 1 + 1, 0, none⟩) 1 1] 43 (0, 0)) := by rw [← hy3]; exact hr2_0
  have hr3_1 : y3.heap[y1.heap.size]? = some (.cells #[.int .i64 1, .int .i64 1, .slice (some ⟨g2, o2, none⟩) 1 c9] 39 (0, 0)) := by rw [← hy3]; exact hr2_1
  rw [hy3] at hS0 ⊢
  clear hy3
  refine wpAnyH_take (i := 0) (v := ?_) rfl (by kernel_rfl) (by kernel_rfl) (by kernel_rfl) (fun _ _ _ h => h) (Or.inl ⟨by kernel_rfl, by (intro wz hSz; go_simp; try with_reducible rfl)⟩) hS0 ?_
  go_simp
  refine wpAnyH_take (i := 1) (v := ?_) rfl (by kernel_rfl) (by kernel_rfl) (by kernel_rfl) (fun _ _ _ h => h) (Or.inl ⟨by kernel_rfl, by (intro wz hSz; go_simp; try with_reducible rfl)⟩) hS0 ?_
  go_simp
  refine wpAnyH_take (i := 2) (v := ?_) rfl (by kernel_rfl) (by kernel_rfl) (by kernel_rfl) (fun _ _ _ h => h) (Or.inl ⟨by kernel_rfl, by (intro wz hSz; go_simp; try with_reducible rfl)⟩) hS0 ?_
  go_simp
  refine wpAnyH_take (i := 3) (v := ?_) rfl (by kernel_rfl) (by kernel_rfl) (by kernel_rfl) (fun _ _ _ h => h) (Or.inl ⟨by kernel_rfl, by (intro wz hSz; go_simp; try with_reducible rfl)⟩) hS0 ?_
  go_simp
  refine wpAnyH_take (i := 4) (v := ?_) rfl (by kernel_rfl) (by kernel_rfl) (by kernel_rfl) (fun _ _ _ h => h) (Or.inl ⟨by kernel_rfl, by (intro wz hSz; have c1_0 := cell_of_row _ _ 0 _ _ _ hSz.1; have c1_1 := cell_of_row _ _ 1 _ _ _ hSz.1; have c1_2 := cell_of_row _ _ 2 _ _ _ hSz.1; simp at c1_0 c1_1 c1_2; have el0z := hSz.2.1; have el1z := hSz.2.2.1; have el2z := hSz.2.2.2; go_simp; try with_reducible rfl)⟩) hS0 ?_
  go_simp
  refine wpAnyH_take (i := 5) (v := ?_) rfl (by kernel_rfl) (by kernel_rfl) (by kernel_rfl) (fun _ _ _ h => h) (Or.inl ⟨by kernel_rfl, by (intro wz hSz; go_simp; try with_reducible rfl)⟩) hS0 ?_
  go_simp
  refine wpAnyH_take (i := 6) (v := ?_) rfl (by kernel_rfl) (by kernel_rfl) (by kernel_rfl) (fun _ _ _ h => h) (Or.inl ⟨by kernel_rfl, by (intro wz hSz; go_simp; try with_reducible rfl)⟩) hS0 ?_
  go_simp
  refine wpAnyH_take (i := 7) (v := ?_) rfl (by kernel_rfl) (by kernel_rfl) (by kernel_rfl) (fun _ _ _ h => h) (Or.inl ⟨by kernel_rfl, by (intro wz hSz; go_simp; try with_reducible rfl)⟩) hS0 ?_
  go_simp
  refine wpAnyH_take (i := 8) (v := ?_) rfl (by kernel_rfl) (by kernel_rfl) (by kernel_rfl) (fun _ _ _ h => h) (Or.inl ⟨by kernel_rfl, by (intro wz hSz; go_simp; try with_reducible rfl)⟩) hS0 ?_
  go_simp
  refine wpAnyH_take (i := 9) (v := ?_) rfl (by kernel_rfl) (by kernel_rfl) (by kernel_rfl) (fun _ _ _ h => h) (Or.inl ⟨by kernel_rfl, by (intro wz hSz; go_simp; try with_reducible rfl)⟩) hS0 ?_
  go_simp
  refine wpAnyH_take (i := 10) (v := ?_) rfl (by kernel_rfl) (by kernel_rfl) (by kernel_rfl) (fun _ _ _ h => h) (Or.inl ⟨by kernel_rfl, by (intro wz hSz; have c1_0 := cell_of_row _ _ 0 _ _ _ hSz.1; have c1_1 := cell_of_row _ _ 1 _ _ _ hSz.1; have c1_2 := cell_of_row _ _ 2 _ _ _ hSz.1; simp at c1_0 c1_1 c1_2; have el0z := hSz.2.1; have el1z := hSz.2.2.1; have el2z := hSz.2.2.2; go_simp; try with_reducible rfl)⟩) hS0 ?_
  go_simp
  refine wpAnyH_take (i := 11) (v := ?_) rfl (by kernel_rfl) (by kernel_rfl) (by kernel_rfl) (fun _ _ _ h => h) (Or.inl ⟨by kernel_rfl, by (intro wz hSz; go_simp; try with_reducible rfl)⟩) hS0 ?_
  go_simp
  refine wpAnyH_take (i := 12) (v := ?_) rfl (by kernel_rfl) (by kernel_rfl) (by kernel_rfl) (fun _ _ _ h => h) (Or.inl ⟨by kernel_rfl, by (intro wz hSz; have c1_0 := cell_of_row _ _ 0 _ _ _ hSz.1; have c1_1 := cell_of_row _ _ 1 _ _ _ hSz.1; have c1_2 := cell_of_row _ _ 2 _ _ _ hSz.1; simp at c1_0 c1_1 c1_2; have el0z := hSz.2.1; have el1z := hSz.2.2.1; have el2z := hSz.2.2.2; go_simp; try with_reducible rfl)⟩) hS0 ?_
  go_simp
  refine wpAnyH_ready (rs := [13]) (by kernel_rfl) (by simp) ?_
  refine AllReadyH.cons rfl (fun K hK => ?_) AllReadyH.nil
  go_simp
  go_wp2_with (go_at_call 49; refine (He.gray_any 65536 _).mono ?_; rintro e y4 ⟨rfl, hb4⟩)
  have hr4_0 := (hb4.block _ (lt_heap hr3_0)).trans hr3_0
  have hr4_1 := (hb4.block _ (lt_heap hr3_1)).trans hr3_1
  have HU4 := Lib.hid (HU3.out.trans (hb4.mono HU3.out.size))
  refine hK.out _ _ (⟨(hb4.block _ (lt_heap hS0.1)).trans hS0.1, (hb4.cell (p := ⟨g2, o2, none⟩) (World.block_lt_of_cell? _ _ (hS0.2.1))).trans hS0.2.1, (hb4.cell (p := ⟨g2, o2 + 1, none⟩) (World.block_lt_of_cell? _ _ (hS0.2.2.1))).trans hS0.2.2.1, (hb4.cell (p := ⟨g2, o2 + 2, none⟩) (World.block_lt_of_cell? _ _ (hS0.2.2.2))).trans hS0.2.2.2⟩) (fun hS4c => ?_)
  clear hK K
  refine wpAnyH_take (i := 14) (v := ?_) rfl (by kernel_rfl) (by kernel_rfl) (by kernel_rfl) (fun _ _ _ h => h) (Or.inl ⟨by kernel_rfl, by (intro wz hSz; go_simp; try with_reducible rfl)⟩) hS4c ?_
  go_simp
  refine wpAnyH_take (i := 15) (v := ?_) rfl (by kernel_rfl) (by kernel_rfl) (by kernel_rfl) (fun _ _ _ h => h) (Or.inl ⟨by kernel_rfl, by (intro wz hSz; go_simp; try with_reducible rfl)⟩) hS4c ?_
  go_simp
  refine wpAnyH_take (i := 16) (v := ?_) rfl (by kernel_rfl) (by kernel_rfl) (by kernel_rfl) (fun _ _ _ h => h) (Or.inl ⟨by kernel_rfl, by (intro wz hSz; go_simp; try with_reducible rfl)⟩) hS4c ?_
  go_simp
  refine wpAnyH_done (by kernel_rfl) ?_ _
  go_wp2
  go_ret
  exact ⟨rfl, HU4.out⟩

def okL (f : Flm) (W3 H3 : Int) (n : Nat) (lv : Int) : Prop := fitP f W3 H3 n ∧ 0 ≤ lv ∧ lv < 5
instance (f : Flm) (W3 H3 : Int) (n : Nat) (lv : Int) : Decidable (okL f W3 H3 n lv) := by unfold okL; infer_instance

/-- what a call answers that smooths: a sheet, or nothing -/
def Ans (e : Ending) (w w' : World) (ok : Prop) [Decidable ok] (W3 H3 : Int) (n : Nat) (LB : Nat → Int) : Prop :=
  (∃ a c, e = .returned (.tuple #[.agg #[.int .i64 (if ok then W3 else 0), .int .i64 (if ok then H3 else 0), .slice a (if ok then n else 0) c], .int .i64 (if ok then 0 else 1)]) ∧ RwP (fun b => w.heap.size ≤ b) 3 w' a (if ok then n else 0) LB) ∧ Below w.heap.size w w'

theorem ans_no {e : Ending} {w w' : World} {ok : Prop} [Decidable ok] {W3 H3 : Int} {n : Nat} {LB : Nat → Int} (h : ¬ ok) (he : e = .returned (.tuple #[.agg #[.int .i64 0, .int .i64 0, .slice none 0 0], .int .i64 1]) ∧ Below w.heap.size w w') : Ans e w w' ok W3 H3 n LB := by
  unfold Ans
  rw [if_neg h, if_neg h, if_neg h, if_neg h]
  exact ⟨⟨none, 0, he.1, .inl rfl⟩, he.2⟩

theorem ans_yes {e : Ending} {w w' : World} {ok : Prop} [Decidable ok] {W3 H3 : Int} {n : Nat} {LB : Nat → Int} (h : ok) (he : (∃ a c, e = .returned (.tuple #[.agg #[.int .i64 W3, .int .i64 H3, .slice a n c], .int .i64 0]) ∧ RwP (fun b => w.heap.size ≤ b) 3 w' a n LB) ∧ Below w.heap.size w w') : Ans e w w' ok W3 H3 n LB := by
  unfold Ans
  rw [if_pos h, if_pos h, if_pos h, if_pos h]
  exact he

theorem fit_sizes {f : Flm} {W3 H3 : Int} {n : Nat} (h : fitP f W3 H3 n) : ∃ Wn Hn : Nat, W3 = Wn ∧ H3 = Hn ∧ n = Wn * Hn := by
  have h1 := h.2.1.1
  have h2 := h.2.1.2
  unfold okSz at h1
  refine ⟨W3.toNat, H3.toNat, by omega, by omega, ?_⟩
  have e1 : ((W3.toNat : Nat) : Int) = W3 := by omega
  have e2 : ((H3.toNat : Nat) : Int) = H3 := by omega
  have e : ((W3.toNat * H3.toNat : Nat) : Int) = W3 * H3 := by rw [Int.natCast_mul, e1, e2]
  rw [← e] at h2
  omega

theorem smooth_all (f : Flm) (p : Pl) (W3 H3 : Int) (a : Option Addr) (n c : Nat) (L : Nat → Int) (w : World) (hf : FAt w f p) (hl : Rw 3 w a n L) (hcn : Cnt w) :
    Calls Tryd.prog 16 #[.agg (FC f p), .agg #[.int .i64 W3, .int .i64 H3, .slice a n c]] w fun e' w' => Ans e' w w' (fitP f W3 H3 n) W3 H3 n (lvs f W3.toNat H3.toNat L 5) := by
  by_cases h : fitP f W3 H3 n
  case neg => exact (smooth_no f p W3 H3 a n c L w hf h).mono fun e w' hh => ans_no h hh
  obtain ⟨Wn, Hn, hW, hH, hn⟩ := fit_sizes h
  subst hW hH
  exact (smooth_ok f p a n c L Wn Hn w hf hl h.2.2.1 h.2.2.2 h hn hcn).mono fun e w' hh => ans_yes h hh

end Go.Proofs.YtpinpkhalccjhaaDoor.Fm
