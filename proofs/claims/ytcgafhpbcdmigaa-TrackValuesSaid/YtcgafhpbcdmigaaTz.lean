/- The contract of the document's own word on a track's value at a time. -/
import Derived.Test.YtcgafhpbcdmigaaTq
import Derived.Test.YtcgafhpbcdmigaaTl
import Derived.Test.YtcgafhpbcdmigaaTv
import Derived.Test.YtcgafhpbcdmigaaWv
import Derived.Test.YtcgafhpbcdmigaaVr
import Derived.Deep.DeepCutAuto
namespace Go.Proofs.Ytcgafhpbcdmigaa.Tk
open Go.RowKit Go.Proofs.Ytcgafhpbcdmigaa Go.Proofs.Ytcgafhpbcdmigaa.Wa Go.Proofs.Ytcgafhpbcdmigaa.Ve

theorem plc_up {L : Nat → Int} {t : Int} : ∀ {n p : Nat}, plc L t n = p → ∀ j, p < j → j < n → ¬ L (j * 4) ≤ t
  | n + 1, p, h, j, hj, hjn => by
    unfold plc at h
    by_cases e : L (n * 4) ≤ t
    · rw [if_pos e] at h; omega
    · rw [if_neg e] at h
      by_cases hj' : j = n
      · subst hj'; exact e
      · exact plc_up h j hj (by omega)

theorem sub_same {a b : Int} (h0 : -2147483648 ≤ a) (h1 : a ≤ 2147483648) (h2 : -2147483648 ≤ b) (h3 : b ≤ 2147483648) (h4 : -2147483648 ≤ a - b) (h5 : a - b ≤ 2147483648) : Pl.sub a b = a - b := by
  unfold Pl.sub; rw [Pl.held_in h0 h1, Pl.held_in h2 h3, Pl.held_in h4 h5]

theorem rdiv_is (x y d : Int) (h : Pl.div x y = d) (w : World) : Calls Try.prog 55 #[.int .i64 x, .int .i64 y] w fun e w' => e = .returned (.int .i64 d) ∧ w = w' := by
  subst h; exact refDiv_any x y w

theorem rright_is (way : Int) (a : Option Addr) (n cap : Nat) (L : Nat → Int) (v : Bool) (h : rightB way n L = v) (w : World) (hr : KeysAt w a n L) :
    Calls Try.prog 37 #[.agg #[.int .i64 way, .slice a n cap]] w fun e w' => e = .returned (.bool v) ∧ Below w.heap.size w w' := by
  subst h; exact rright_any way a n cap L w hr

theorem rplace_is (way : Int) (a : Option Addr) (n cap : Nat) (L : Nat → Int) (t p : Int) (h : plc L t n = p) (w : World) (hr : KeysAt w a n L) :
    Calls Try.prog 39 #[.agg #[.int .i64 way, .slice a n cap], .int .i64 t] w fun e w' => e = .returned (.int .i64 p) ∧ Below w.heap.size w w' := by
  subst h; exact rplace_any way a n cap L t w hr

set_option maxHeartbeats 1000000 in
theorem rat_wrong (way : Int) (a : Option Addr) (n cap : Nat) (L : Nat → Int) (t : Int) (w : World) (hk : KeysAt w a n L) (HT : Hid (rightB way n L = false)) :
    Calls Try.prog 42 #[.agg #[.int .i64 way, .slice a n cap], .int .i64 t] w fun e w' => e = .returned (V3 0 0 0) ∧ Below w.heap.size w w' := by
  go_enter Try.func42, Try.ntmps42
  go_wp2_with fail
  refine (rright_is _ _ _ _ _ false HT.out _ (hk.on (below_n2 _ _ _))).mono ?_
  rintro e w1 ⟨rfl, hb1⟩
  obtain ⟨hc, hf⟩ := bcell hb1
  have hz := hb1.size
  simp at hz
  go_wp2
  exact bodyPost_ret (v := V3 0 0 0) (by simp [results, Try.results42, go_sem, hc]) rfl ⟨rfl, below_put3 (below_c2 hb1) (by omega) _ _ _⟩

set_option maxHeartbeats 2000000 in
set_option maxRecDepth 100000 in
theorem rat_ahead (way : Int) (b off n cap : Nat) (L : Nat → Int) (t : Int) (w : World) (hk : KeysAt w (some ⟨b, off, none⟩) n L) (hcs : ∀ j, j < n * 4 → w.cell? ⟨b, off + j, none⟩ = some (.int .i64 (L j))) (HT : Hid (rightB way n L = true)) (HP : Hid (plc L t n = -1)) (hn : 1 ≤ n) :
    Calls Try.prog 42 #[.agg #[.int .i64 way, .slice (some ⟨b, off, none⟩) n cap], .int .i64 t] w fun e w' => e = .returned (V3 (L 1) (L 2) (L 3)) ∧ Below w.heap.size w w' := by
  have HC := Lib.hid hcs
  clear hcs
  go_enter Try.func42, Try.ntmps42
  go_wp2_with fail
  refine (rright_is _ _ _ _ _ true HT.out _ (hk.on (below_n2 _ _ _))).mono ?_
  rintro e w1 ⟨rfl, hb1⟩
  have hk1 := (hk.on (below_n2 _ _ _)).on hb1
  obtain ⟨hc1, hf1⟩ := bcell hb1
  go_wp2_with fail
  refine (rplace_is _ _ _ _ _ _ (-1) HP.out _ hk1).mono ?_
  rintro e w2 ⟨rfl, hb2⟩
  have hbx := hb1.trans (hb2.mono hb1.size)
  clear hc1 hf1 hk1
  obtain ⟨hc, hf⟩ := bcell hbx
  have hz := hbx.size
  simp at hz
  have hbw := below_c2 hbx
  have q0 : (0 : Int) < n := by omega
  have k1 := held_on hbw (HC.out 1 (by omega))
  have k2 := held_on hbw (HC.out 2 (by omega))
  have k3 := held_on hbw (HC.out 3 (by omega))
  clear hbw
  go_wp2
  exact bodyPost_ret (v := V3 (L 1) (L 2) (L 3)) (by simp [results, Try.results42, go_sem, hc]) rfl ⟨rfl, below_put3 (below_c2 hbx) (by omega) _ _ _⟩

set_option maxHeartbeats 2000000 in
set_option maxRecDepth 100000 in
theorem rat_last (way : Int) (b off n cap : Nat) (L : Nat → Int) (t : Int) (w : World) (hk : KeysAt w (some ⟨b, off, none⟩) n L) (hcs : ∀ j, j < n * 4 → w.cell? ⟨b, off + j, none⟩ = some (.int .i64 (L j))) (HT : Hid (rightB way n L = true)) (p : Nat) (HN : Hid (n = p + 1)) (hn : n ≤ 16) (HP : Hid (plc L t n = (p : Int))) :
    Calls Try.prog 42 #[.agg #[.int .i64 way, .slice (some ⟨b, off, none⟩) n cap], .int .i64 t] w fun e w' => e = .returned (V3 (L (p * 4 + 1)) (L (p * 4 + 2)) (L (p * 4 + 3))) ∧ Below w.heap.size w w' := by
  have HC := Lib.hid hcs
  clear hcs
  go_enter Try.func42, Try.ntmps42
  go_wp2_with fail
  refine (rright_is _ _ _ _ _ true HT.out _ (hk.on (below_n2 _ _ _))).mono ?_
  rintro e w1 ⟨rfl, hb1⟩
  have hk1 := (hk.on (below_n2 _ _ _)).on hb1
  obtain ⟨hc1, hf1⟩ := bcell hb1
  go_wp2_with fail
  refine (rplace_is _ _ _ _ _ _ (p : Int) HP.out _ hk1).mono ?_
  rintro e w2 ⟨rfl, hb2⟩
  have hbx := hb1.trans (hb2.mono hb1.size)
  clear hc1 hf1 hk1
  obtain ⟨hc, hf⟩ := bcell hbx
  have hz := hbx.size
  simp at hz
  have hbw := below_c2 hbx
  have hpn : p < n := by have := HN.out; omega
  have k1 : w2.cell? ⟨b, off + p * 4 + 1, none⟩ = some (.int .i64 (L (p * 4 + 1))) := held_on hbw (HC.out (p * 4 + 1) (by omega))
  have k2 : w2.cell? ⟨b, off + p * 4 + 2, none⟩ = some (.int .i64 (L (p * 4 + 2))) := held_on hbw (HC.out (p * 4 + 2) (by omega))
  have k3 : w2.cell? ⟨b, off + p * 4 + 3, none⟩ = some (.int .i64 (L (p * 4 + 3))) := held_on hbw (HC.out (p * 4 + 3) (by omega))
  clear hbw
  have q1 : (p : Int) < n := by omega
  have q2 : (0 : Int) ≤ p := by omega
  have q3 : (n : Int) - 1 = p := by have := HN.out; omega
  have q4 : ¬ (p : Int) < 0 := by omega
  go_wp2
  exact bodyPost_ret (v := V3 (L (p * 4 + 1)) (L (p * 4 + 2)) (L (p * 4 + 3))) (by simp [results, Try.results42, go_sem, hc]) rfl ⟨rfl, below_put3 (below_c2 hbx) (by omega) _ _ _⟩

set_option maxHeartbeats 2000000 in
set_option maxRecDepth 100000 in
theorem rat_step (way : Int) (b off n cap : Nat) (L : Nat → Int) (t : Int) (w : World) (hk : KeysAt w (some ⟨b, off, none⟩) n L) (hcs : ∀ j, j < n * 4 → w.cell? ⟨b, off + j, none⟩ = some (.int .i64 (L j))) (HT : Hid (rightB way n L = true)) (p : Nat) (hpn : p + 1 < n) (hn : n ≤ 16) (HP : Hid (plc L t n = (p : Int))) (hw : way = 0) :
    Calls Try.prog 42 #[.agg #[.int .i64 way, .slice (some ⟨b, off, none⟩) n cap], .int .i64 t] w fun e w' => e = .returned (V3 (L (p * 4 + 1)) (L (p * 4 + 2)) (L (p * 4 + 3))) ∧ Below w.heap.size w w' := by
  have HC := Lib.hid hcs
  clear hcs
  subst hw
  go_enter Try.func42, Try.ntmps42
  go_wp2_with fail
  refine (rright_is _ _ _ _ _ true HT.out _ (hk.on (below_n2 _ _ _))).mono ?_
  rintro e w1 ⟨rfl, hb1⟩
  have hk1 := (hk.on (below_n2 _ _ _)).on hb1
  obtain ⟨hc1, hf1⟩ := bcell hb1
  go_wp2_with fail
  refine (rplace_is _ _ _ _ _ _ (p : Int) HP.out _ hk1).mono ?_
  rintro e w2 ⟨rfl, hb2⟩
  have hbx := hb1.trans (hb2.mono hb1.size)
  clear hc1 hf1 hk1
  obtain ⟨hc, hf⟩ := bcell hbx
  have hz := hbx.size
  simp at hz
  have hbw := below_c2 hbx
  have k1 : w2.cell? ⟨b, off + p * 4 + 1, none⟩ = some (.int .i64 (L (p * 4 + 1))) := held_on hbw (HC.out (p * 4 + 1) (by omega))
  have k2 : w2.cell? ⟨b, off + p * 4 + 2, none⟩ = some (.int .i64 (L (p * 4 + 2))) := held_on hbw (HC.out (p * 4 + 2) (by omega))
  have k3 : w2.cell? ⟨b, off + p * 4 + 3, none⟩ = some (.int .i64 (L (p * 4 + 3))) := held_on hbw (HC.out (p * 4 + 3) (by omega))
  clear hbw
  have q1 : (p : Int) < n := by omega
  have q2 : (0 : Int) ≤ p := by omega
  have q3 : ¬ (p : Int) = (n : Int) - 1 := by omega
  have q4 : ¬ (p : Int) < 0 := by omega
  go_wp2
  exact bodyPost_ret (v := V3 (L (p * 4 + 1)) (L (p * 4 + 2)) (L (p * 4 + 3))) (by simp [results, Try.results42, go_sem, hc]) rfl ⟨rfl, below_put3 (below_c2 hbx) (by omega) _ _ _⟩

set_option maxHeartbeats 2000000 in
set_option maxRecDepth 100000 in
theorem rat_way (way : Int) (b off n cap : Nat) (L : Nat → Int) (t : Int) (w : World) (hk : KeysAt w (some ⟨b, off, none⟩) n L) (hcs : ∀ j, j < n * 4 → w.cell? ⟨b, off + j, none⟩ = some (.int .i64 (L j))) (HT : Hid (rightB way n L = true)) (p : Nat) (hpn : p + 1 < n) (hn : n ≤ 16) (HP : Hid (plc L t n = (p : Int))) (hw : ¬ way = 0) (ht0 : L (p * 4) ≤ t) (ht1 : t < L ((p + 1) * 4)) (ht2 : 0 ≤ L (p * 4)) (ht3 : L ((p + 1) * 4) ≤ 2097152) :
    Calls Try.prog 42 #[.agg #[.int .i64 way, .slice (some ⟨b, off, none⟩) n cap], .int .i64 t] w fun e w' => e = .returned (V3 (Pl.lerp (L (p * 4 + 1)) (L ((p + 1) * 4 + 1)) (part way t (L (p * 4)) (L ((p + 1) * 4)))) (Pl.lerp (L (p * 4 + 2)) (L ((p + 1) * 4 + 2)) (part way t (L (p * 4)) (L ((p + 1) * 4)))) (Pl.lerp (L (p * 4 + 3)) (L ((p + 1) * 4 + 3)) (part way t (L (p * 4)) (L ((p + 1) * 4))))) ∧ Below w.heap.size w w' := by
  have HC := Lib.hid hcs
  clear hcs
  go_enter Try.func42, Try.ntmps42
  go_wp2_with fail
  refine (rright_is _ _ _ _ _ true HT.out _ (hk.on (below_n2 _ _ _))).mono ?_
  rintro e w1 ⟨rfl, hb1⟩
  have hk1 := (hk.on (below_n2 _ _ _)).on hb1
  obtain ⟨hc1, hf1⟩ := bcell hb1
  go_wp2_with fail
  refine (rplace_is _ _ _ _ _ _ (p : Int) HP.out _ hk1).mono ?_
  rintro e w2 ⟨rfl, hb2⟩
  have hbx := hb1.trans (hb2.mono hb1.size)
  clear hc1 hf1 hk1
  obtain ⟨hc, hf⟩ := bcell hbx
  have hz := hbx.size
  simp at hz
  have hbw := below_c2 hbx
  have k00 : w2.cell? ⟨b, off + p * 4, none⟩ = some (.int .i64 (L (p * 4))) := held_on hbw (HC.out (p * 4) (by omega))
  have k01 : w2.cell? ⟨b, off + p * 4 + 1, none⟩ = some (.int .i64 (L (p * 4 + 1))) := held_on hbw (HC.out (p * 4 + 1) (by omega))
  have k02 : w2.cell? ⟨b, off + p * 4 + 2, none⟩ = some (.int .i64 (L (p * 4 + 2))) := held_on hbw (HC.out (p * 4 + 2) (by omega))
  have k03 : w2.cell? ⟨b, off + p * 4 + 3, none⟩ = some (.int .i64 (L (p * 4 + 3))) := held_on hbw (HC.out (p * 4 + 3) (by omega))
  have k10 : w2.cell? ⟨b, off + (p + 1) * 4, none⟩ = some (.int .i64 (L ((p + 1) * 4))) := held_on hbw (HC.out ((p + 1) * 4) (by omega))
  have k11 : w2.cell? ⟨b, off + (p + 1) * 4 + 1, none⟩ = some (.int .i64 (L ((p + 1) * 4 + 1))) := held_on hbw (HC.out ((p + 1) * 4 + 1) (by omega))
  have k12 : w2.cell? ⟨b, off + (p + 1) * 4 + 2, none⟩ = some (.int .i64 (L ((p + 1) * 4 + 2))) := held_on hbw (HC.out ((p + 1) * 4 + 2) (by omega))
  have k13 : w2.cell? ⟨b, off + (p + 1) * 4 + 3, none⟩ = some (.int .i64 (L ((p + 1) * 4 + 3))) := held_on hbw (HC.out ((p + 1) * 4 + 3) (by omega))
  have hlt : b < w.heap.size := World.block_lt_of_cell? _ _ (HC.out 0 (by omega))
  have q1 : (p : Int) < n := by omega
  have q2 : (0 : Int) ≤ p := by omega
  have q3 : ¬ (p : Int) = (n : Int) - 1 := by omega
  have q4 : ¬ (p : Int) < 0 := by omega
  have q9 : ((p : Int) == (n : Int) - 1) = false := by simp; omega
  have q10 : decide ((p : Int) = (n : Int) - 1) = false := by simp; omega
  have q11 : (way == 0) = false := by simpa using hw
  have q5 : IntKind.i64.wrap ((p : Int) + 1) = (p : Int) + 1 := IntWalk.i64_in _ (by omega)
  have q6 : (p : Int) + 1 < n := by omega
  have q7 : (0 : Int) ≤ (p : Int) + 1 := by omega
  have q8 : ((p : Int) + 1).toNat = p + 1 := by omega
  have x0 : w2.cell? ⟨w.heap.size, 0, none⟩ = some (.int .i64 way) := by simp [go_sem, hc]
  have x1 : w2.cell? ⟨w.heap.size, 1, none⟩ = some (.slice (some ⟨b, off, none⟩) n cap) := by simp [go_sem, hc]
  have r0 : w2.cell? ⟨w.heap.size + 1, 0, none⟩ = some (.int .i64 0) := by simp [go_sem, hc]
  have r1 : w2.cell? ⟨w.heap.size + 1, 1, none⟩ = some (.int .i64 0) := by simp [go_sem, hc]
  have r2 : w2.cell? ⟨w.heap.size + 1, 2, none⟩ = some (.int .i64 0) := by simp [go_sem, hc]
  have rf : ∀ j, w2.frozen? ⟨w.heap.size + 1, j, none⟩ = false := by intro j; simp [go_sem, hf]
  have z0 : b < w2.heap.size := by omega
  have z1 : w.heap.size < w2.heap.size := by omega
  have z2 : w.heap.size + 1 < w2.heap.size := by omega
  have z3 : b ≠ w2.heap.size := by omega
  have z4 : w.heap.size ≠ w2.heap.size := by omega
  have z5 : w.heap.size + 1 ≠ w2.heap.size := by omega
  have z6 : b < w2.heap.size + 1 := by omega
  have z7 : w.heap.size < w2.heap.size + 1 := by omega
  have z8 : w.heap.size + 1 < w2.heap.size + 1 := by omega
  have hm1 := hbw
  clear hc hf hb1 hb2 hbx hbw
  go_upto_region 8 with fail
  go_cut [6, 7] (fun s6 s7 wx => ∃ g h : Nat, s6 = .pointer (some ⟨g, 0, none⟩) ∧ s7 = .pointer (some ⟨h, 0, none⟩) ∧ wx.cell? ⟨g, 0, none⟩ = some (.int .i64 (L (p * 4))) ∧ wx.cell? ⟨g, 1, none⟩ = some (.int .i64 (L (p * 4 + 1))) ∧ wx.cell? ⟨g, 2, none⟩ = some (.int .i64 (L (p * 4 + 2))) ∧ wx.cell? ⟨g, 3, none⟩ = some (.int .i64 (L (p * 4 + 3))) ∧ wx.cell? ⟨h, 0, none⟩ = some (.int .i64 (L ((p + 1) * 4))) ∧ wx.cell? ⟨h, 1, none⟩ = some (.int .i64 (L ((p + 1) * 4 + 1))) ∧ wx.cell? ⟨h, 2, none⟩ = some (.int .i64 (L ((p + 1) * 4 + 2))) ∧ wx.cell? ⟨h, 3, none⟩ = some (.int .i64 (L ((p + 1) * 4 + 3))) ∧ wx.cell? ⟨w.heap.size, 0, none⟩ = some (.int .i64 way) ∧ wx.cell? ⟨w.heap.size + 1, 0, none⟩ = some (.int .i64 0) ∧ wx.cell? ⟨w.heap.size + 1, 1, none⟩ = some (.int .i64 0) ∧ wx.cell? ⟨w.heap.size + 1, 2, none⟩ = some (.int .i64 0) ∧ (∀ j, wx.frozen? ⟨w.heap.size + 1, j, none⟩ = false) ∧ w.heap.size + 1 + 1 ≤ wx.heap.size ∧ Below w.heap.size w wx)
  case first =>
    go_region_held3 (fun w' => w'.cell? ⟨w.heap.size, 0, none⟩ = some (.int .i64 way) ∧ w'.cell? ⟨w.heap.size, 1, none⟩ = some (.slice (some ⟨b, off, none⟩) n cap) ∧ w'.cell? ⟨b, off + p * 4, none⟩ = some (.int .i64 (L (p * 4))) ∧ w'.cell? ⟨b, off + p * 4 + 1, none⟩ = some (.int .i64 (L (p * 4 + 1))) ∧ w'.cell? ⟨b, off + p * 4 + 2, none⟩ = some (.int .i64 (L (p * 4 + 2))) ∧ w'.cell? ⟨b, off + p * 4 + 3, none⟩ = some (.int .i64 (L (p * 4 + 3))) ∧ w'.cell? ⟨b, off + (p + 1) * 4, none⟩ = some (.int .i64 (L ((p + 1) * 4))) ∧ w'.cell? ⟨b, off + (p + 1) * 4 + 1, none⟩ = some (.int .i64 (L ((p + 1) * 4 + 1))) ∧ w'.cell? ⟨b, off + (p + 1) * 4 + 2, none⟩ = some (.int .i64 (L ((p + 1) * 4 + 2))) ∧ w'.cell? ⟨b, off + (p + 1) * 4 + 3, none⟩ = some (.int .i64 (L ((p + 1) * 4 + 3)))) (first | (go_keep; done) | ((try dsimp only); refine ⟨?_, ?_, ?_, ?_, ?_, ?_, ?_, ?_, ?_, ?_⟩ <;> (go_simp; done))) (first | (go_at_call 99999; fail))
    all_goals (go_wp2_with fail; go_meet; refine ⟨_, _, rfl, rfl, ?_, ?_, ?_, ?_, ?_, ?_, ?_, ?_, ?_, ?_, ?_, ?_, ?_, ?_, ?_⟩)
    all_goals first | (go_simp; done) | (simp; omega) | (intro j; go_simp; done) | (intro j; simp [go_sem, rf]; done) | (repeat (first | exact hm1 | apply Below.drew | (refine Below.alloc ?_ (by first | omega | (simp; done) | (simp; omega)) _)))
  case rest =>
    obtain ⟨g, h, rfl, rfl, g0, g1, g2, g3, h0, h1, h2, h3, x0, r0, r1, r2, rf, hsz, hbk⟩ := hcut
    have e1 := sub_same (a := t) (b := L (p * 4)) (by omega) (by omega) (by omega) (by omega) (by omega) (by omega)
    have e2 := sub_same (a := L ((p + 1) * 4)) (b := L (p * 4)) (by omega) (by omega) (by omega) (by omega) (by omega) (by omega)
    have HD := Lib.hid (show Pl.div (t - L (p * 4)) (L ((p + 1) * 4) - L (p * 4)) = Pl.div (Pl.sub t (L (p * 4))) (Pl.sub (L ((p + 1) * 4)) (L (p * 4))) by rw [e1, e2])
    have hsz' : w.heap.size + 1 < wc.heap.size := by omega
    clear e1 e2
    by_cases hw2 : way = 2
    · have HW := Lib.hid (show Pl.ease (Pl.div (Pl.sub t (L (p * 4))) (Pl.sub (L ((p + 1) * 4)) (L (p * 4)))) = (part way t (L (p * 4)) (L ((p + 1) * 4))) from (if_pos hw2).symm)
      go_wp2_with (first | (go_at_call 55; refine (rdiv_is _ _ _ HD.out _).mono ?_; rintro e w9 ⟨rfl, rfl⟩) | (go_at_call 65; refine (Wv.rease_any _ _).mono ?_; rintro e w9 ⟨rfl, rfl⟩) | (go_at_call 66; refine (rmix_any _ _ _ _ _ _ _ _).mono ?_; rintro e w3 ⟨rfl, hb3⟩; obtain ⟨hc, hf⟩ := bcell hb3; have hz3 := hb3.size))
      rw [← HW.out]
      have s0 := (hc _ 0 hsz').trans r0
      have s1 := (hc _ 1 hsz').trans r1
      have s2 := (hc _ 2 hsz').trans r2
      exact bodyPost_ret (v := V3 (Pl.lerp (L (p * 4 + 1)) (L ((p + 1) * 4 + 1)) (Pl.ease (Pl.div (Pl.sub t (L (p * 4))) (Pl.sub (L ((p + 1) * 4)) (L (p * 4)))))) (Pl.lerp (L (p * 4 + 2)) (L ((p + 1) * 4 + 2)) (Pl.ease (Pl.div (Pl.sub t (L (p * 4))) (Pl.sub (L ((p + 1) * 4)) (L (p * 4)))))) (Pl.lerp (L (p * 4 + 3)) (L ((p + 1) * 4 + 3)) (Pl.ease (Pl.div (Pl.sub t (L (p * 4))) (Pl.sub (L ((p + 1) * 4)) (L (p * 4))))))) (by simp [results, Try.results42, go_sem, s0, s1, s2]) rfl ⟨rfl, below_put3 (hbk.trans (hb3.mono hbk.size)) (by omega) _ _ _⟩
    · have HW := Lib.hid (show Pl.div (Pl.sub t (L (p * 4))) (Pl.sub (L ((p + 1) * 4)) (L (p * 4))) = (part way t (L (p * 4)) (L ((p + 1) * 4))) from (if_neg hw2).symm)
      go_wp2_with (first | (go_at_call 55; refine (rdiv_is _ _ _ HD.out _).mono ?_; rintro e w9 ⟨rfl, rfl⟩) | (go_at_call 65; refine (Wv.rease_any _ _).mono ?_; rintro e w9 ⟨rfl, rfl⟩) | (go_at_call 66; refine (rmix_any _ _ _ _ _ _ _ _).mono ?_; rintro e w3 ⟨rfl, hb3⟩; obtain ⟨hc, hf⟩ := bcell hb3; have hz3 := hb3.size))
      rw [← HW.out]
      have s0 := (hc _ 0 hsz').trans r0
      have s1 := (hc _ 1 hsz').trans r1
      have s2 := (hc _ 2 hsz').trans r2
      exact bodyPost_ret (v := V3 (Pl.lerp (L (p * 4 + 1)) (L ((p + 1) * 4 + 1)) (Pl.div (Pl.sub t (L (p * 4))) (Pl.sub (L ((p + 1) * 4)) (L (p * 4))))) (Pl.lerp (L (p * 4 + 2)) (L ((p + 1) * 4 + 2)) (Pl.div (Pl.sub t (L (p * 4))) (Pl.sub (L ((p + 1) * 4)) (L (p * 4))))) (Pl.lerp (L (p * 4 + 3)) (L ((p + 1) * 4 + 3)) (Pl.div (Pl.sub t (L (p * 4))) (Pl.sub (L ((p + 1) * 4)) (L (p * 4)))))) (by simp [results, Try.results42, go_sem, s0, s1, s2]) rfl ⟨rfl, below_put3 (hbk.trans (hb3.mono hbk.size)) (by omega) _ _ _⟩

theorem rat_any (way : Int) (a : Option Addr) (n cap : Nat) (L : Nat → Int) (t : Int) (w : World) (hk : KeysAt w a n L) :
    Calls Try.prog 42 #[.agg #[.int .i64 way, .slice a n cap], .int .i64 t] w fun e w' => e = .returned (V3 (valN way n L t 1) (valN way n L t 2) (valN way n L t 3)) ∧ Below w.heap.size w w' := by
  cases hv : rightB way n L
  · rw [valN_wrong hv, valN_wrong hv, valN_wrong hv]; exact rat_wrong way a n cap L t w hk (Lib.hid hv)
  · obtain ⟨⟨h0, h1, h2, h3⟩, hok⟩ := right_of hv
    obtain ⟨-, h' | ⟨b, off, rfl, hlt, hcs⟩⟩ := id hk
    · omega
    · have hb := plc_bd L t n
      by_cases hp : plc L t n = -1
      · rw [valN_ahead hv hp, valN_ahead hv hp, valN_ahead hv hp]; exact rat_ahead way b off n cap L t w hk hcs (Lib.hid hv) (Lib.hid hp) h2
      · obtain ⟨p, hpp⟩ : ∃ p : Nat, plc L t n = p := ⟨(plc L t n).toNat, by omega⟩
        by_cases hn : n = p + 1
        · rw [valN_at hv hpp (.inl hn), valN_at hv hpp (.inl hn), valN_at hv hpp (.inl hn)]; exact rat_last way b off n cap L t w hk hcs (Lib.hid hv) p (Lib.hid hn) h3 (Lib.hid hpp)
        · by_cases hw : way = 0
          · rw [valN_at hv hpp (.inr hw), valN_at hv hpp (.inr hw), valN_at hv hpp (.inr hw)]; exact rat_step way b off n cap L t w hk hcs (Lib.hid hv) p (by omega) h3 (Lib.hid hpp) hw
          · rw [valN_way hv hpp hn hw, valN_way hv hpp hn hw, valN_way hv hpp hn hw]
            have t1 := plc_up hpp (p + 1) (by omega) (by omega)
            exact rat_way way b off n cap L t w hk hcs (Lib.hid hv) p (by omega) h3 (Lib.hid hpp) hw (plc_le hpp) (by omega) (key_of (hok p (by omega))).1.1.1 (key_of (hok (p + 1) (by omega))).1.1.2
end Go.Proofs.Ytcgafhpbcdmigaa.Tk
