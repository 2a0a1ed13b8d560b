/- The contract of a track's value at a time. -/
import Derived.Test.YtcgafhpbcdmigaaTr
import Derived.Test.YtcgafhpbcdmigaaTp
import Derived.Test.YtcgafhpbcdmigaaTw
import Derived.Test.YtcgafhpbcdmigaaTv
namespace Go.Proofs.Ytcgafhpbcdmigaa.Tk
open Go.RowKit Go.Proofs.Ytcgafhpbcdmigaa Go.Proofs.Ytcgafhpbcdmigaa.Wa Go.Proofs.Ytcgafhpbcdmigaa.Ve Go.Proofs.Ytcgafhpbcdmigaa.Tb

theorem far1 {wr : World} {b c i j : Nat} {x : Value} (h : c ≠ b) : (wr.setCell ⟨b, i, none⟩ x).cell? ⟨c, j, none⟩ = wr.cell? ⟨c, j, none⟩ :=
  World.cell?_setCell_other _ _ _ _ (by first | (simp; done) | (simp; omega))

theorem right_is (way : Int) (a : Option Addr) (n cap : Nat) (L : Nat → Int) (v : Bool) (h : rightB way n L = v) (w : World) (hr : KeysAt w a n L) :
    Calls Try.prog 36 #[.agg #[.int .i64 way, .slice a n cap]] w fun e w' => e = .returned (.bool v) ∧ Below w.heap.size w w' := by
  subst h; exact right_any way a n cap L w hr

theorem place_is (way : Int) (a : Option Addr) (n cap : Nat) (L : Nat → Int) (t p : Int) (h : plc L t n = p) (w : World) (hr : KeysAt w a n L) :
    Calls Try.prog 38 #[.agg #[.int .i64 way, .slice a n cap], .int .i64 t] w fun e w' => e = .returned (.int .i64 p) ∧ Below w.heap.size w w' := by
  subst h; exact place_any way a n cap L t w hr

set_option maxHeartbeats 1000000 in
theorem at_wrong (way : Int) (a : Option Addr) (n cap : Nat) (L : Nat → Int) (t : Int) (w : World) (hk : KeysAt w a n L) (HT : Hid (rightB way n L = false)) :
    Calls Try.prog 41 #[.agg #[.int .i64 way, .slice a n cap], .int .i64 t] w fun e w' => e = .returned (V3 0 0 0) ∧ Below w.heap.size w w' := by
  go_enter Try.func41, Try.ntmps41
  go_wp2_with fail
  refine (right_is _ _ _ _ _ false HT.out _ (hk.on (below_n2 _ _ _))).mono ?_
  rintro e w1 ⟨rfl, hb1⟩
  obtain ⟨hc, hf⟩ := bcell hb1
  have hz := hb1.size
  simp at hz
  go_wp2
  exact bodyPost_ret (v := V3 0 0 0) (by simp [results, Try.results41, go_sem, hc]) rfl ⟨rfl, below_put3 (below_c2 hb1) (by omega) _ _ _⟩

set_option maxHeartbeats 2000000 in
set_option maxRecDepth 100000 in
theorem at_ahead (way : Int) (b off n cap : Nat) (L : Nat → Int) (t : Int) (w : World) (hk : KeysAt w (some ⟨b, off, none⟩) n L) (hcs : ∀ j, j < n * 4 → w.cell? ⟨b, off + j, none⟩ = some (.int .i64 (L j))) (HT : Hid (rightB way n L = true)) (HP : Hid (plc L t n = -1)) (hn : 1 ≤ n) :
    Calls Try.prog 41 #[.agg #[.int .i64 way, .slice (some ⟨b, off, none⟩) n cap], .int .i64 t] w fun e w' => e = .returned (V3 (L 1) (L 2) (L 3)) ∧ Below w.heap.size w w' := by
  have HC := Lib.hid hcs
  clear hcs
  go_enter Try.func41, Try.ntmps41
  go_wp2_with fail
  refine (right_is _ _ _ _ _ true HT.out _ (hk.on (below_n2 _ _ _))).mono ?_
  rintro e w1 ⟨rfl, hb1⟩
  have hk1 := (hk.on (below_n2 _ _ _)).on hb1
  obtain ⟨hc1, hf1⟩ := bcell hb1
  go_wp2_with fail
  refine (place_is _ _ _ _ _ _ (-1) HP.out _ hk1).mono ?_
  rintro e w2 ⟨rfl, hb2⟩
  have hbx := hb1.trans (hb2.mono hb1.size)
  clear hc1 hf1 hk1
  obtain ⟨hc, hf⟩ := bcell hbx
  have hz := hbx.size
  simp at hz
  have hbw := below_c2 hbx
  have q0 : (0 : Int) < n := by omega
  have k1 := held_on hbw (HC.out 1 (by omega))
  have k2 := held_on hbw (HC.out 2 (by omega))
  have k3 := held_on hbw (HC.out 3 (by omega))
  clear hbw
  go_wp2
  exact bodyPost_ret (v := V3 (L 1) (L 2) (L 3)) (by simp [results, Try.results41, go_sem, hc]) rfl ⟨rfl, below_put3 (below_c2 hbx) (by omega) _ _ _⟩

set_option maxHeartbeats 2000000 in
set_option maxRecDepth 100000 in
theorem at_last (way : Int) (b off n cap : Nat) (L : Nat → Int) (t : Int) (w : World) (hk : KeysAt w (some ⟨b, off, none⟩) n L) (hcs : ∀ j, j < n * 4 → w.cell? ⟨b, off + j, none⟩ = some (.int .i64 (L j))) (HT : Hid (rightB way n L = true)) (p : Nat) (HN : Hid (n = p + 1)) (hn : n ≤ 16) (HP : Hid (plc L t n = (p : Int))) :
    Calls Try.prog 41 #[.agg #[.int .i64 way, .slice (some ⟨b, off, none⟩) n cap], .int .i64 t] w fun e w' => e = .returned (V3 (L (p * 4 + 1)) (L (p * 4 + 2)) (L (p * 4 + 3))) ∧ Below w.heap.size w w' := by
  have HC := Lib.hid hcs
  clear hcs
  go_enter Try.func41, Try.ntmps41
  go_wp2_with fail
  refine (right_is _ _ _ _ _ true HT.out _ (hk.on (below_n2 _ _ _))).mono ?_
  rintro e w1 ⟨rfl, hb1⟩
  have hk1 := (hk.on (below_n2 _ _ _)).on hb1
  obtain ⟨hc1, hf1⟩ := bcell hb1
  go_wp2_with fail
  refine (place_is _ _ _ _ _ _ (p : Int) HP.out _ hk1).mono ?_
  rintro e w2 ⟨rfl, hb2⟩
  have hbx := hb1.trans (hb2.mono hb1.size)
  clear hc1 hf1 hk1
  obtain ⟨hc, hf⟩ := bcell hbx
  have hz := hbx.size
  simp at hz
  have hbw := below_c2 hbx
  have hpn : p < n := by have := HN.out; omega
  have k1 : w2.cell? ⟨b, off + p * 4 + 1, none⟩ = some (.int .i64 (L (p * 4 + 1))) := held_on hbw (HC.out (p * 4 + 1) (by omega))
  have k2 : w2.cell? ⟨b, off + p * 4 + 2, none⟩ = some (.int .i64 (L (p * 4 + 2))) := held_on hbw (HC.out (p * 4 + 2) (by omega))
  have k3 : w2.cell? ⟨b, off + p * 4 + 3, none⟩ = some (.int .i64 (L (p * 4 + 3))) := held_on hbw (HC.out (p * 4 + 3) (by omega))
  clear hbw
  have q1 : (p : Int) < n := by omega
  have q2 : (0 : Int) ≤ p := by omega
  have q3 : (n : Int) - 1 = p := by have := HN.out; omega
  have q4 : ¬ (p : Int) < 0 := by omega
  go_wp2
  exact bodyPost_ret (v := V3 (L (p * 4 + 1)) (L (p * 4 + 2)) (L (p * 4 + 3))) (by simp [results, Try.results41, go_sem, hc]) rfl ⟨rfl, below_put3 (below_c2 hbx) (by omega) _ _ _⟩

set_option maxHeartbeats 2000000 in
set_option maxRecDepth 100000 in
theorem at_step (way : Int) (b off n cap : Nat) (L : Nat → Int) (t : Int) (w : World) (hk : KeysAt w (some ⟨b, off, none⟩) n L) (hcs : ∀ j, j < n * 4 → w.cell? ⟨b, off + j, none⟩ = some (.int .i64 (L j))) (HT : Hid (rightB way n L = true)) (p : Nat) (hpn : p + 1 < n) (hn : n ≤ 16) (HP : Hid (plc L t n = (p : Int))) (hw : way = 0) :
    Calls Try.prog 41 #[.agg #[.int .i64 way, .slice (some ⟨b, off, none⟩) n cap], .int .i64 t] w fun e w' => e = .returned (V3 (L (p * 4 + 1)) (L (p * 4 + 2)) (L (p * 4 + 3))) ∧ Below w.heap.size w w' := by
  have HC := Lib.hid hcs
  clear hcs
  subst hw
  go_enter Try.func41, Try.ntmps41
  go_wp2_with fail
  refine (right_is _ _ _ _ _ true HT.out _ (hk.on (below_n2 _ _ _))).mono ?_
  rintro e w1 ⟨rfl, hb1⟩
  have hk1 := (hk.on (below_n2 _ _ _)).on hb1
  obtain ⟨hc1, hf1⟩ := bcell hb1
  go_wp2_with fail
  refine (place_is _ _ _ _ _ _ (p : Int) HP.out _ hk1).mono ?_
  rintro e w2 ⟨rfl, hb2⟩
  have hbx := hb1.trans (hb2.mono hb1.size)
  clear hc1 hf1 hk1
  obtain ⟨hc, hf⟩ := bcell hbx
  have hz := hbx.size
  simp at hz
  have hbw := below_c2 hbx
  have k1 : w2.cell? ⟨b, off + p * 4 + 1, none⟩ = some (.int .i64 (L (p * 4 + 1))) := held_on hbw (HC.out (p * 4 + 1) (by omega))
  have k2 : w2.cell? ⟨b, off + p * 4 + 2, none⟩ = some (.int .i64 (L (p * 4 + 2))) := held_on hbw (HC.out (p * 4 + 2) (by omega))
  have k3 : w2.cell? ⟨b, off + p * 4 + 3, none⟩ = some (.int .i64 (L (p * 4 + 3))) := held_on hbw (HC.out (p * 4 + 3) (by omega))
  clear hbw
  have q1 : (p : Int) < n := by omega
  have q2 : (0 : Int) ≤ p := by omega
  have q3 : ¬ (p : Int) = (n : Int) - 1 := by omega
  have q4 : ¬ (p : Int) < 0 := by omega
  go_wp2
  exact bodyPost_ret (v := V3 (L (p * 4 + 1)) (L (p * 4 + 2)) (L (p * 4 + 3))) (by simp [results, Try.results41, go_sem, hc]) rfl ⟨rfl, below_put3 (below_c2 hbx) (by omega) _ _ _⟩

set_option maxHeartbeats 2000000 in
set_option maxRecDepth 100000 in
theorem at_way (way : Int) (b off n cap : Nat) (L : Nat → Int) (t : Int) (w : World) (hk : KeysAt w (some ⟨b, off, none⟩) n L) (hcs : ∀ j, j < n * 4 → w.cell? ⟨b, off + j, none⟩ = some (.int .i64 (L j))) (HT : Hid (rightB way n L = true)) (p : Nat) (hpn : p + 1 < n) (hn : n ≤ 16) (HP : Hid (plc L t n = (p : Int))) (hw : ¬ way = 0) :
    Calls Try.prog 41 #[.agg #[.int .i64 way, .slice (some ⟨b, off, none⟩) n cap], .int .i64 t] w fun e w' => e = .returned (V3 (Pl.lerp (L (p * 4 + 1)) (L ((p + 1) * 4 + 1)) (part way t (L (p * 4)) (L ((p + 1) * 4)))) (Pl.lerp (L (p * 4 + 2)) (L ((p + 1) * 4 + 2)) (part way t (L (p * 4)) (L ((p + 1) * 4)))) (Pl.lerp (L (p * 4 + 3)) (L ((p + 1) * 4 + 3)) (part way t (L (p * 4)) (L ((p + 1) * 4))))) ∧ Below w.heap.size w w' := by
  have HC := Lib.hid hcs
  clear hcs
  go_enter Try.func41, Try.ntmps41
  go_wp2_with fail
  refine (right_is _ _ _ _ _ true HT.out _ (hk.on (below_n2 _ _ _))).mono ?_
  rintro e w1 ⟨rfl, hb1⟩
  have hk1 := (hk.on (below_n2 _ _ _)).on hb1
  obtain ⟨hc1, hf1⟩ := bcell hb1
  go_wp2_with fail
  refine (place_is _ _ _ _ _ _ (p : Int) HP.out _ hk1).mono ?_
  rintro e w2 ⟨rfl, hb2⟩
  have hbx := hb1.trans (hb2.mono hb1.size)
  clear hc1 hf1 hk1
  obtain ⟨hc, hf⟩ := bcell hbx
  have hz := hbx.size
  simp at hz
  have hbw := below_c2 hbx
  have k00 : w2.cell? ⟨b, off + p * 4, none⟩ = some (.int .i64 (L (p * 4))) := held_on hbw (HC.out (p * 4) (by omega))
  have k01 : w2.cell? ⟨b, off + p * 4 + 1, none⟩ = some (.int .i64 (L (p * 4 + 1))) := held_on hbw (HC.out (p * 4 + 1) (by omega))
  have k02 : w2.cell? ⟨b, off + p * 4 + 2, none⟩ = some (.int .i64 (L (p * 4 + 2))) := held_on hbw (HC.out (p * 4 + 2) (by omega))
  have k03 : w2.cell? ⟨b, off + p * 4 + 3, none⟩ = some (.int .i64 (L (p * 4 + 3))) := held_on hbw (HC.out (p * 4 + 3) (by omega))
  have k10 : w2.cell? ⟨b, off + (p + 1) * 4, none⟩ = some (.int .i64 (L ((p + 1) * 4))) := held_on hbw (HC.out ((p + 1) * 4) (by omega))
  have k11 : w2.cell? ⟨b, off + (p + 1) * 4 + 1, none⟩ = some (.int .i64 (L ((p + 1) * 4 + 1))) := held_on hbw (HC.out ((p + 1) * 4 + 1) (by omega))
  have k12 : w2.cell? ⟨b, off + (p + 1) * 4 + 2, none⟩ = some (.int .i64 (L ((p + 1) * 4 + 2))) := held_on hbw (HC.out ((p + 1) * 4 + 2) (by omega))
  have k13 : w2.cell? ⟨b, off + (p + 1) * 4 + 3, none⟩ = some (.int .i64 (L ((p + 1) * 4 + 3))) := held_on hbw (HC.out ((p + 1) * 4 + 3) (by omega))
  have hlt : b < w.heap.size := World.block_lt_of_cell? _ _ (HC.out 0 (by omega))
  have hne : b ≠ w.heap.size + 1 := by omega
  have hne' : w.heap.size + 1 ≠ b := by omega
  have hns : w.heap.size ≠ w.heap.size + 1 := by omega
  have q1 : (p : Int) < n := by omega
  have q2 : (0 : Int) ≤ p := by omega
  have q3 : ¬ (p : Int) = (n : Int) - 1 := by omega
  have q4 : ¬ (p : Int) < 0 := by omega
  have q9 : ((p : Int) == (n : Int) - 1) = false := by simp; omega
  have q10 : decide ((p : Int) = (n : Int) - 1) = false := by simp; omega
  have q11 : (way == 0) = false := by simpa using hw
  have q5 : IntKind.i64.wrap ((p : Int) + 1) = (p : Int) + 1 := IntWalk.i64_in _ (by omega)
  have q6 : (p : Int) + 1 < n := by omega
  have q7 : (0 : Int) ≤ (p : Int) + 1 := by omega
  have q8 : ((p : Int) + 1).toNat = p + 1 := by omega
  go_wp2_with fail
  go_region_held3 (fun w' => w'.cell? ⟨w.heap.size, 0, none⟩ = some (.int .i64 way) ∧ w'.cell? ⟨w.heap.size, 1, none⟩ = some (.slice (some ⟨b, off, none⟩) n cap) ∧ w'.cell? ⟨b, off + p * 4, none⟩ = some (.int .i64 (L (p * 4))) ∧ w'.cell? ⟨b, off + p * 4 + 1, none⟩ = some (.int .i64 (L (p * 4 + 1))) ∧ w'.cell? ⟨b, off + p * 4 + 2, none⟩ = some (.int .i64 (L (p * 4 + 2))) ∧ w'.cell? ⟨b, off + p * 4 + 3, none⟩ = some (.int .i64 (L (p * 4 + 3))) ∧ w'.cell? ⟨b, off + (p + 1) * 4, none⟩ = some (.int .i64 (L ((p + 1) * 4))) ∧ w'.cell? ⟨b, off + (p + 1) * 4 + 1, none⟩ = some (.int .i64 (L ((p + 1) * 4 + 1))) ∧ w'.cell? ⟨b, off + (p + 1) * 4 + 2, none⟩ = some (.int .i64 (L ((p + 1) * 4 + 2))) ∧ w'.cell? ⟨b, off + (p + 1) * 4 + 3, none⟩ = some (.int .i64 (L ((p + 1) * 4 + 3)))) (first | (go_keep; done) | (refine ⟨?_, ?_, by assumption, by assumption, by assumption, by assumption, by assumption, by assumption, by assumption, by assumption⟩ <;> (simp [go_sem, hc]; done)) | (go_split_ands; (try dsimp only); exact ⟨held_on hbn (by assumption), held_on hbn (by assumption), held_on hbn (by assumption), held_on hbn (by assumption), held_on hbn (by assumption), held_on hbn (by assumption), held_on hbn (by assumption), held_on hbn (by assumption), held_on hbn (by assumption), held_on hbn (by assumption)⟩) | (refine ⟨?_, ?_, ?_, ?_, ?_, ?_, ?_, ?_, ?_, ?_⟩ <;> (rw [far1 (by omega), far1 (by omega), far1 (by omega)]; go_split_ands; assumption))) (first | (go_at_call 64; refine (between_any _ _ _ _ _ _ _ _ _ _ _ _ _ _).mono ?_; rintro e w9 ⟨rfl, hbn⟩; have hb9 := hbw.drew.trans (hbn.mono hbw.drew.size); have hb9' := hbx.drew.trans (hbn.mono hbx.drew.size); obtain ⟨hc9, hf9⟩ := bcell hb9'))
  go_wp2
  exact bodyPost_ret (v := V3 (Pl.lerp (L (p * 4 + 1)) (L ((p + 1) * 4 + 1)) (part way t (L (p * 4)) (L ((p + 1) * 4)))) (Pl.lerp (L (p * 4 + 2)) (L ((p + 1) * 4 + 2)) (part way t (L (p * 4)) (L ((p + 1) * 4)))) (Pl.lerp (L (p * 4 + 3)) (L ((p + 1) * 4 + 3)) (part way t (L (p * 4)) (L ((p + 1) * 4))))) (by simp [results, Try.results41, go_sem, hc9]) rfl ⟨rfl, below_put3 hb9 (by omega) _ _ _⟩

theorem at_any (way : Int) (a : Option Addr) (n cap : Nat) (L : Nat → Int) (t : Int) (w : World) (hk : KeysAt w a n L) :
    Calls Try.prog 41 #[.agg #[.int .i64 way, .slice a n cap], .int .i64 t] w fun e w' => e = .returned (V3 (valN way n L t 1) (valN way n L t 2) (valN way n L t 3)) ∧ Below w.heap.size w w' := by
  cases hv : rightB way n L
  · rw [valN_wrong hv, valN_wrong hv, valN_wrong hv]; exact at_wrong way a n cap L t w hk (Lib.hid hv)
  · obtain ⟨⟨h0, h1, h2, h3⟩, -⟩ := right_of hv
    obtain ⟨-, h' | ⟨b, off, rfl, hlt, hcs⟩⟩ := id hk
    · omega
    · have hb := plc_bd L t n
      by_cases hp : plc L t n = -1
      · rw [valN_ahead hv hp, valN_ahead hv hp, valN_ahead hv hp]; exact at_ahead way b off n cap L t w hk hcs (Lib.hid hv) (Lib.hid hp) h2
      · obtain ⟨p, hpp⟩ : ∃ p : Nat, plc L t n = p := ⟨(plc L t n).toNat, by omega⟩
        by_cases hn : n = p + 1
        · rw [valN_at hv hpp (.inl hn), valN_at hv hpp (.inl hn), valN_at hv hpp (.inl hn)]; exact at_last way b off n cap L t w hk hcs (Lib.hid hv) p (Lib.hid hn) h3 (Lib.hid hpp)
        · by_cases hw : way = 0
          · rw [valN_at hv hpp (.inr hw), valN_at hv hpp (.inr hw), valN_at hv hpp (.inr hw)]; exact at_step way b off n cap L t w hk hcs (Lib.hid hv) p (by omega) h3 (Lib.hid hpp) hw
          · rw [valN_way hv hpp hn hw, valN_way hv hpp hn hw, valN_way hv hpp hn hw]; exact at_way way b off n cap L t w hk hcs (Lib.hid hv) p (by omega) h3 (Lib.hid hpp) hw
end Go.Proofs.Ytcgafhpbcdmigaa.Tk
