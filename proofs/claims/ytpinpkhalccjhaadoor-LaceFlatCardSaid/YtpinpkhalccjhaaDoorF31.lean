/- Lights within bounds, smoothed. -/
import Derived.Test.YtpinpkhalccjhaaDoorF29
namespace Go.Proofs.YtpinpkhalccjhaaDoor.Fm
open Go Go.RowKit Go.Proofs.YtpinpkhalccjhaaDoor Go.Proofs.YtpinpkhalccjhaaDoor.Rp Go.Proofs.YtpinpkhalccjhaaDoor.Re Go.Proofs.YtpinpkhalccjhaaDoor.Au
set_option linter.unusedVariables false
set_option linter.unusedSimpArgs false

theorem mul_part {a b : Int} (a0 : 0 ≤ a) (a1 : a ≤ 65536) (b0 : 0 ≤ b) (b1 : b ≤ 65536) : 0 ≤ Pl.mul a b ∧ Pl.mul a b ≤ 65536 := by
  unfold Pl.mul
  rw [Pl.held_in (n := a) (by omega) (by omega), Pl.held_in (n := b) (by omega) (by omega)]
  have h0 := Int.mul_nonneg a0 b0
  have h1 : a * b ≤ 65536 * 65536 := Int.mul_le_mul a1 b1 b0 (by omega)
  obtain ⟨p, hp⟩ : ∃ p, p = a * b := ⟨_, rfl⟩
  rw [← hp] at h0 h1 ⊢
  have h2 : 0 ≤ p / 65536 := by omega
  have h3 : p / 65536 ≤ 65536 := by omega
  rw [Pl.held_in (by omega) (by omega)]
  exact ⟨h2, h3⟩

theorem held_nonneg {n : Int} (h : 0 ≤ n) : 0 ≤ Pl.held n := by
  unfold Pl.held
  repeat' split
  all_goals omega

theorem mul_nonneg' {a b : Int} (a0 : 0 ≤ a) (b0 : 0 ≤ b) : 0 ≤ Pl.mul a b := by
  unfold Pl.mul
  have h := Int.mul_nonneg (held_nonneg a0) (held_nonneg b0)
  exact held_nonneg (by omega)

theorem add_nonneg' {a b : Int} (a0 : 0 ≤ a) (b0 : 0 ≤ b) : 0 ≤ Pl.add a b := by
  unfold Pl.add
  have h1 := held_nonneg a0
  have h2 := held_nonneg b0
  exact held_nonneg (by omega)

theorem amount_nonneg (a : Int) : 0 ≤ Pl.amount a := by
  unfold Pl.amount
  split <;> omega

theorem lsn_bd {e a : Int} (e0 : 0 ≤ e) (a0 : 0 ≤ a) : 0 ≤ lsn e a ∧ lsn e a ≤ 65536 := by
  unfold lsn
  have hm := mul_nonneg' e0 a0
  have hm1 : Pl.mul e a ≤ 2147483648 := by unfold Pl.mul; exact Pl.held_hi _
  obtain ⟨m, hm_⟩ : ∃ m, m = Pl.mul e a := ⟨_, rfl⟩
  rw [← hm_] at hm hm1 ⊢
  have hd0 : 65536 ≤ Pl.add 65536 m := by
    unfold Pl.add
    rw [Pl.held_in (n := 65536) (by omega) (by omega), Pl.held_in (n := m) (by omega) (by omega)]
    unfold Pl.held
    repeat' split
    all_goals omega
  have hd1 : Pl.add 65536 m ≤ 2147483648 := by unfold Pl.add; exact Pl.held_hi _
  obtain ⟨d, hd⟩ : ∃ d, d = Pl.add 65536 m := ⟨_, rfl⟩
  rw [← hd] at hd0 hd1 ⊢
  have hh : Pl.held d = d := Pl.held_in (by omega) hd1
  rw [← Pl.div_quot (by rw [hh]; omega), hh, Pl.held_in (n := 65536) (by omega) (by omega)]
  unfold Pl.quot
  rw [if_neg (by omega)]
  have h1 : 0 ≤ 65536 * 65536 / d := Int.ediv_nonneg (by omega) (by omega)
  have h2 : 65536 * 65536 / d ≤ 65536 := Int.ediv_le_of_le_mul (by omega) (by omega)
  rw [Pl.held_in (by omega) (by omega)]
  exact ⟨h1, h2⟩

theorem alk_bd (f : Flm) (i k : Nat) : 0 ≤ alk f i k ∧ alk f i k ≤ 65536 := by
  unfold alk
  split
  · omega
  · split
    · omega
    · have h := lsn_bd (e := 262144) (by omega) (amount_nonneg (Pl.sub (f.D i) (f.D k)))
      exact mul_part (Pl.unit_lo _) (Pl.unit_hi _) h.1 h.2

theorem hdf_nonneg (L : Nat → Int) (i k : Nat) : 0 ≤ hdf L i k := by
  unfold hdf
  exact add_nonneg' (add_nonneg' (add_nonneg' (by omega) (amount_nonneg _)) (amount_nonneg _)) (amount_nonneg _)

theorem edg_nonneg {lv : Nat} (h : lv < 5) : 0 ≤ edg lv := by
  unfold edg Pl.ofWhole
  have := pow_bd h
  repeat' split
  all_goals omega

theorem wgt_bd (f : Flm) (L : Nat → Int) {lv : Nat} (h : lv < 5) (i k : Nat) : 0 ≤ wgt f L lv i k ∧ wgt f L lv i k ≤ 65536 := by
  unfold wgt
  split
  · omega
  · have h1 := alk_bd f i k
    have h2 := lsn_bd (edg_nonneg h) (hdf_nonneg L i k)
    exact mul_part h1.1 h1.2 h2.1 h2.2

theorem mul_whole {n w : Int} (n0 : 1 ≤ n) (n1 : n ≤ 36) (w0 : 0 ≤ w) (w1 : w ≤ 65536) : Pl.mul (Pl.ofWhole n) w = n * w := by
  unfold Pl.mul Pl.ofWhole
  rw [if_neg (by omega), if_neg (by omega), Pl.held_in (n := n * 65536) (by omega) (by omega), Pl.held_in (n := w) (by omega) (by omega)]
  have e : n * 65536 * w = n * w * 65536 := by rw [Int.mul_assoc, Int.mul_comm 65536 w, Int.mul_assoc]
  rw [e, Int.mul_ediv_cancel _ (by omega)]
  have h0 : 0 ≤ n * w := Int.mul_nonneg (by omega) w0
  have h1 : n * w ≤ 36 * 65536 := Int.mul_le_mul n1 w1 w0 (by omega)
  exact Pl.held_in (by omega) (by omega)

theorem tp_mul (a b : Nat) : 1 ≤ tp a * tp b ∧ tp a * tp b ≤ 36 := by
  have ha := tp_bd a
  have hb := tp_bd b
  have h1 : tp a * tp b ≤ 6 * 6 := Int.mul_le_mul ha.2 hb.2 (by omega) (by omega)
  have h0 : 1 * 1 ≤ tp a * tp b := Int.mul_le_mul ha.1 hb.1 (by omega) (by omega)
  omega

theorem mw_bd (f : Flm) (L : Nat → Int) {lv : Nat} (h : lv < 5) (i k m : Nat) : 0 ≤ mw f L lv i k m ∧ mw f L lv i k m ≤ 2359296 := by
  unfold mw
  have ht := tp_mul (m % 5) (m / 5)
  have hw := wgt_bd f L h i k
  obtain ⟨t, ht_⟩ : ∃ t, t = tp (m % 5) * tp (m / 5) := ⟨_, rfl⟩
  obtain ⟨w, hw_⟩ : ∃ w, w = wgt f L lv i k := ⟨_, rfl⟩
  rw [← ht_] at ht ⊢
  rw [← hw_] at hw ⊢
  rw [mul_whole ht.1 ht.2 hw.1 hw.2]
  have h0 : 0 ≤ t * w := Int.mul_nonneg (by omega) hw.1
  have h1 : t * w ≤ 36 * 65536 := Int.mul_le_mul ht.2 hw.2 hw.1 (by omega)
  exact ⟨h0, by omega⟩

theorem mw_own (f : Flm) (L : Nat → Int) (lv i : Nat) : mw f L lv i i 12 = 2359296 := by
  unfold mw wgt
  rw [if_pos rfl, show tp (12 % 5) * tp (12 / 5) = 36 by decide, mul_whole (by omega) (by omega) (by omega) (by omega)]
  decide

/-- one step of a sum -/
theorem sum_step {lo hi v w r t : Int} {m : Nat} (hm : m ≤ 24) (hlo : -16 ≤ lo) (hlh : lo ≤ hi) (hhi : hi ≤ 1048576) (v0 : lo ≤ v) (v1 : v ≤ hi) (w0 : 0 ≤ w) (w1 : w ≤ 2359296) (t0 : 0 ≤ t) (t1 : t ≤ m * 2359296) (r0 : lo * t - 65536 * m ≤ 65536 * r) (r1 : 65536 * r ≤ hi * t) :
    lo * (Pl.add t w) - 65536 * (m + 1) ≤ 65536 * (Pl.add r (Pl.mul v w)) ∧ 65536 * (Pl.add r (Pl.mul v w)) ≤ hi * (Pl.add t w) ∧ Pl.add t w = t + w := by
  have et : Pl.add t w = t + w := by
    unfold Pl.add
    rw [Pl.held_in (n := t) (by omega) (by omega), Pl.held_in (n := w) (by omega) (by omega), Pl.held_in (by omega) (by omega)]
  have p0 : lo * w ≤ v * w := Int.mul_le_mul_of_nonneg_right v0 w0
  have p1 : v * w ≤ hi * w := Int.mul_le_mul_of_nonneg_right v1 w0
  have q0 : -16 * w ≤ lo * w := Int.mul_le_mul_of_nonneg_right hlo w0
  have q1 : hi * w ≤ 1048576 * w := Int.mul_le_mul_of_nonneg_right hhi w0
  have s0 : -16 * t ≤ lo * t := Int.mul_le_mul_of_nonneg_right hlo t0
  have s1 : hi * t ≤ 1048576 * t := Int.mul_le_mul_of_nonneg_right hhi t0
  have em : Pl.mul v w = v * w / 65536 := by
    unfold Pl.mul
    rw [Pl.held_in (n := v) (by omega) (by omega), Pl.held_in (n := w) (by omega) (by omega), Pl.held_in (by omega) (by omega)]
  have er : Pl.add r (Pl.mul v w) = r + v * w / 65536 := by
    rw [em]
    unfold Pl.add
    rw [Pl.held_in (n := r) (by omega) (by omega), Pl.held_in (n := v * w / 65536) (by omega) (by omega), Pl.held_in (by omega) (by omega)]
  rw [er, et, Int.mul_add lo t w, Int.mul_add hi t w]
  refine ⟨by omega, by omega, rfl⟩

/-- what the sums are divided by, at the end -/
theorem sum_end {lo hi r t : Int} (hlo : -16 ≤ lo) (hlh : lo ≤ hi) (hhi : hi ≤ 1048576) (t0 : 2359296 ≤ t) (t1 : t ≤ 58982400) (r0 : lo * t - 65536 * 25 ≤ 65536 * r) (r1 : 65536 * r ≤ hi * t) : lo - 1 ≤ Pl.div r t ∧ Pl.div r t ≤ hi := by
  have s0 : -16 * t ≤ lo * t := Int.mul_le_mul_of_nonneg_right hlo (by omega)
  have s1 : hi * t ≤ 1048576 * t := Int.mul_le_mul_of_nonneg_right hhi (by omega)
  have hr : Pl.held r = r := Pl.held_in (by omega) (by omega)
  have ht : Pl.held t = t := Pl.held_in (by omega) (by omega)
  rw [← Pl.div_quot (by rw [ht]; omega), hr, ht]
  unfold Pl.quot
  rw [if_neg (by omega)]
  have h1 : r * 65536 / t ≤ hi := Int.ediv_le_of_le_mul (by omega) (by omega)
  have h0 : lo - 1 ≤ r * 65536 / t := by
    apply Int.le_ediv_of_mul_le (by omega)
    rw [Int.sub_mul]
    omega
  rw [Pl.held_in (by omega) (by omega)]
  exact ⟨h0, h1⟩

theorem acc_t (f : Flm) (L : Nat → Int) (W H x y : Nat) {lv : Nat} (h : lv < 5) (hx : x < W) (hy : y < H) : ∀ m, m ≤ 25 → 0 ≤ (acc f L W H lv x y m).t ∧ (acc f L W H lv x y m).t ≤ m * 2359296 ∧ (13 ≤ m → 2359296 ≤ (acc f L W H lv x y m).t)
  | 0, _ => ⟨by simp [acc], by simp [acc], fun k => by omega⟩
  | m + 1, hm => by
    have ih := acc_t f L W H x y h hx hy m (by omega)
    by_cases hi : ins W H (px x lv m) (py y lv m)
    · rw [acc_in hi]
      have hw := mw_bd f L h (y * W + x) (pn W (px x lv m) (py y lv m)) m
      have ho : m = 12 → mw f L lv (y * W + x) (pn W (px x lv m) (py y lv m)) m = 2359296 := by
        intro e
        subst e
        rw [show pn W (px x lv 12) (py y lv 12) = y * W + x by simp [px, py, pn]]
        exact mw_own f L lv _
      obtain ⟨w, hw_⟩ : ∃ w, w = mw f L lv (y * W + x) (pn W (px x lv m) (py y lv m)) m := ⟨_, rfl⟩
      obtain ⟨t, ht_⟩ : ∃ t, t = (acc f L W H lv x y m).t := ⟨_, rfl⟩
      rw [← hw_] at hw ho ⊢
      rw [← ht_] at ih
      simp only [stp]
      rw [← ht_]
      have et : Pl.add t w = t + w := by
        unfold Pl.add
        rw [Pl.held_in (n := t) (by omega) (by omega), Pl.held_in (n := w) (by omega) (by omega), Pl.held_in (by omega) (by omega)]
      rw [et]
      refine ⟨by omega, by omega, fun k => ?_⟩
      by_cases e : m = 12
      · have := ho e
        omega
      · have := ih.2.2 (by omega)
        omega
    · rw [acc_out hi]
      refine ⟨ih.1, by omega, fun k => ?_⟩
      by_cases e : m = 12
      · subst e
        exact absurd (show ins W H (px x lv 12) (py y lv 12) by simp [px, py, ins]; omega) hi
      · exact ih.2.2 (by omega)

theorem acc_r (f : Flm) (L : Nat → Int) (W H x y : Nat) {lv : Nat} {lo hi : Int} (h : lv < 5) (hx : x < W) (hy : y < H) (hlo : -16 ≤ lo) (hlh : lo ≤ hi) (hhi : hi ≤ 1048576) (hL : ∀ k, k < W * H → lo ≤ L (k * 3) ∧ L (k * 3) ≤ hi) : ∀ m, m ≤ 25 → lo * (acc f L W H lv x y m).t - 65536 * m ≤ 65536 * (acc f L W H lv x y m).r ∧ 65536 * (acc f L W H lv x y m).r ≤ hi * (acc f L W H lv x y m).t
  | 0, _ => ⟨by simp [acc], by simp [acc]⟩
  | m + 1, hm => by
    have ih := acc_r f L W H x y h hx hy hlo hlh hhi hL m (by omega)
    have it := acc_t f L W H x y h hx hy m (by omega)
    by_cases hi_ : ins W H (px x lv m) (py y lv m)
    · rw [acc_in hi_]
      have hw := mw_bd f L h (y * W + x) (pn W (px x lv m) (py y lv m)) m
      have hv := hL _ (pn_lt hi_)
      have hs := sum_step (by omega) hlo hlh hhi hv.1 hv.2 hw.1 hw.2 it.1 it.2.1 ih.1 ih.2
      simp only [stp]
      exact ⟨by have := hs.1; push_cast at this ⊢; exact this, hs.2.1⟩
    · rw [acc_out hi_]
      exact ⟨by have := ih.1; push_cast; omega, ih.2⟩

theorem sm0_bd (f : Flm) (L : Nat → Int) (W H x y : Nat) {lv : Nat} {lo hi : Int} (h : lv < 5) (hx : x < W) (hy : y < H) (hlo : -16 ≤ lo) (hlh : lo ≤ hi) (hhi : hi ≤ 1048576) (hL : ∀ k, k < W * H → lo ≤ L (k * 3) ∧ L (k * 3) ≤ hi) : lo - 1 ≤ sm0 f L W H lv x y ∧ sm0 f L W H lv x y ≤ hi := by
  have a := acc_r f L W H x y h hx hy hlo hlh hhi hL 25 (by omega)
  have t := acc_t f L W H x y h hx hy 25 (by omega)
  unfold sm0
  exact sum_end hlo hlh hhi (t.2.2 (by omega)) (by have := t.2.1; omega) (by have := a.1; omega) a.2

theorem acc_g (f : Flm) (L : Nat → Int) (W H x y : Nat) {lv : Nat} {lo hi : Int} (h : lv < 5) (hx : x < W) (hy : y < H) (hlo : -16 ≤ lo) (hlh : lo ≤ hi) (hhi : hi ≤ 1048576) (hL : ∀ k, k < W * H → lo ≤ L (k * 3 + 1) ∧ L (k * 3 + 1) ≤ hi) : ∀ m, m ≤ 25 → lo * (acc f L W H lv x y m).t - 65536 * m ≤ 65536 * (acc f L W H lv x y m).g ∧ 65536 * (acc f L W H lv x y m).g ≤ hi * (acc f L W H lv x y m).t
  | 0, _ => ⟨by simp [acc], by simp [acc]⟩
  | m + 1, hm => by
    have ih := acc_g f L W H x y h hx hy hlo hlh hhi hL m (by omega)
    have it := acc_t f L W H x y h hx hy m (by omega)
    by_cases hi_ : ins W H (px x lv m) (py y lv m)
    · rw [acc_in hi_]
      have hw := mw_bd f L h (y * W + x) (pn W (px x lv m) (py y lv m)) m
      have hv := hL _ (pn_lt hi_)
      have hs := sum_step (by omega) hlo hlh hhi hv.1 hv.2 hw.1 hw.2 it.1 it.2.1 ih.1 ih.2
      simp only [stp]
      exact ⟨by have := hs.1; push_cast at this ⊢; exact this, hs.2.1⟩
    · rw [acc_out hi_]
      exact ⟨by have := ih.1; push_cast; omega, ih.2⟩

theorem sm1_bd (f : Flm) (L : Nat → Int) (W H x y : Nat) {lv : Nat} {lo hi : Int} (h : lv < 5) (hx : x < W) (hy : y < H) (hlo : -16 ≤ lo) (hlh : lo ≤ hi) (hhi : hi ≤ 1048576) (hL : ∀ k, k < W * H → lo ≤ L (k * 3 + 1) ∧ L (k * 3 + 1) ≤ hi) : lo - 1 ≤ sm1 f L W H lv x y ∧ sm1 f L W H lv x y ≤ hi := by
  have a := acc_g f L W H x y h hx hy hlo hlh hhi hL 25 (by omega)
  have t := acc_t f L W H x y h hx hy 25 (by omega)
  unfold sm1
  exact sum_end hlo hlh hhi (t.2.2 (by omega)) (by have := t.2.1; omega) (by have := a.1; omega) a.2

theorem acc_b (f : Flm) (L : Nat → Int) (W H x y : Nat) {lv : Nat} {lo hi : Int} (h : lv < 5) (hx : x < W) (hy : y < H) (hlo : -16 ≤ lo) (hlh : lo ≤ hi) (hhi : hi ≤ 1048576) (hL : ∀ k, k < W * H → lo ≤ L (k * 3 + 2) ∧ L (k * 3 + 2) ≤ hi) : ∀ m, m ≤ 25 → lo * (acc f L W H lv x y m).t - 65536 * m ≤ 65536 * (acc f L W H lv x y m).b ∧ 65536 * (acc f L W H lv x y m).b ≤ hi * (acc f L W H lv x y m).t
  | 0, _ => ⟨by simp [acc], by simp [acc]⟩
  | m + 1, hm => by
    have ih := acc_b f L W H x y h hx hy hlo hlh hhi hL m (by omega)
    have it := acc_t f L W H x y h hx hy m (by omega)
    by_cases hi_ : ins W H (px x lv m) (py y lv m)
    · rw [acc_in hi_]
      have hw := mw_bd f L h (y * W + x) (pn W (px x lv m) (py y lv m)) m
      have hv := hL _ (pn_lt hi_)
      have hs := sum_step (by omega) hlo hlh hhi hv.1 hv.2 hw.1 hw.2 it.1 it.2.1 ih.1 ih.2
      simp only [stp]
      exact ⟨by have := hs.1; push_cast at this ⊢; exact this, hs.2.1⟩
    · rw [acc_out hi_]
      exact ⟨by have := ih.1; push_cast; omega, ih.2⟩

theorem sm2_bd (f : Flm) (L : Nat → Int) (W H x y : Nat) {lv : Nat} {lo hi : Int} (h : lv < 5) (hx : x < W) (hy : y < H) (hlo : -16 ≤ lo) (hlh : lo ≤ hi) (hhi : hi ≤ 1048576) (hL : ∀ k, k < W * H → lo ≤ L (k * 3 + 2) ∧ L (k * 3 + 2) ≤ hi) : lo - 1 ≤ sm2 f L W H lv x y ∧ sm2 f L W H lv x y ≤ hi := by
  have a := acc_b f L W H x y h hx hy hlo hlh hhi hL 25 (by omega)
  have t := acc_t f L W H x y h hx hy 25 (by omega)
  unfold sm2
  exact sum_end hlo hlh hhi (t.2.2 (by omega)) (by have := t.2.1; omega) (by have := a.1; omega) a.2

/-- a level: whatever kind of light, from within two bounds -/
theorem lev_bd (f : Flm) (L : Nat → Int) (W H : Nat) {lv c : Nat} {lo hi : Int} (hc : c < 3) (h : lv < 5) (hlo : -16 ≤ lo) (hlh : lo ≤ hi) (hhi : hi ≤ 1048576) (hL : ∀ k, k < W * H → lo ≤ L (k * 3 + c) ∧ L (k * 3 + c) ≤ hi) : ∀ k, k < W * H → lo - 1 ≤ lev f W H lv L (k * 3 + c) ∧ lev f W H lv L (k * 3 + c) ≤ hi := fun k hk => by
  have hW : 0 < W := Nat.pos_of_ne_zero (fun e => by rw [e, Nat.zero_mul] at hk; omega)
  have hx : k % W < W := Nat.mod_lt _ hW
  have hy : k / W < H := (Nat.div_lt_iff_lt_mul hW).2 (by rw [Nat.mul_comm]; exact hk)
  have e : k / W * W + k % W = k := by rw [Nat.mul_comm]; exact Nat.div_add_mod k W
  have hl := lev_at f W H lv (k % W) (k / W) L hx
  rw [e] at hl
  match c, hc with
  | 0, _ => rw [Nat.add_zero, hl.1]; exact sm0_bd f L W H _ _ h hx hy hlo hlh hhi hL
  | 1, _ => rw [hl.2.1]; exact sm1_bd f L W H _ _ h hx hy hlo hlh hhi hL
  | 2, _ => rw [hl.2.2]; exact sm2_bd f L W H _ _ h hx hy hlo hlh hhi hL

/-- all levels -/
theorem lvs_bd (f : Flm) (L : Nat → Int) (W H : Nat) {c : Nat} {hi : Int} (hc : c < 3) (h0 : 0 ≤ hi) (hhi : hi ≤ 1048576) (hL : ∀ k, k < W * H → L (k * 3 + c) = hi) : ∀ n, n ≤ 5 → ∀ k, k < W * H → hi - n ≤ lvs f W H L n (k * 3 + c) ∧ lvs f W H L n (k * 3 + c) ≤ hi
  | 0, _ => fun k hk => by have := hL k hk; simp only [lvs]; omega
  | n + 1, hn => fun k hk => by
    have ih := lvs_bd f L W H hc h0 hhi hL n (by omega)
    have hb := lev_bd f (lvs f W H L n) W H (lv := n) hc (by omega) (by omega) (by omega) hhi ih k hk
    simp only [lvs]
    omega

end Go.Proofs.YtpinpkhalccjhaaDoor.Fm
