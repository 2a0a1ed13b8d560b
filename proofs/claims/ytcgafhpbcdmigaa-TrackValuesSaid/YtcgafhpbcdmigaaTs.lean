/- What a law's walk wants of tracks, plainly: a key's own value; the value between two keys. -/
import Derived.Test.YtcgafhpbcdmigaaTv
namespace Go.Proofs.Ytcgafhpbcdmigaa.Tk
open Go.Proofs.Ytcgafhpbcdmigaa

theorem div_zero {b : Int} (h0 : 0 < b) (h1 : b ≤ 2147483648) : Pl.div 0 b = 0 := by
  unfold Pl.div
  rw [Pl.held_in (n := b) (by omega) h1, Pl.held_in (n := 0) (by omega) (by omega), if_neg (by omega), if_neg (by omega)]
  simp; exact Pl.held_in (by omega) (by omega)

theorem part_own (way : Int) {a b : Int} (h0 : 0 ≤ a) (h1 : a < b) (h2 : b ≤ 2097152) : part way a a b = 0 := by
  have e1 : Pl.sub a a = 0 := by unfold Pl.sub; rw [Int.sub_self]; exact Pl.held_in (by omega) (by omega)
  have e2 : Pl.sub b a = b - a := by unfold Pl.sub; rw [Pl.held_in (n := b) (by omega) (by omega), Pl.held_in (n := a) (by omega) (by omega), Pl.held_in (by omega) (by omega)]
  unfold part
  rw [e1, e2, div_zero (by omega) (by omega)]
  split
  · decide
  · rfl

theorem lerp_none {a b : Int} (h0 : -2147483648 ≤ a) (h1 : a ≤ 2147483648) : Pl.lerp a b 0 = a := by
  unfold Pl.lerp
  have e : Pl.unit 0 = 0 := by decide
  rw [e, Int.mul_zero, Pl.held_in h0 h1]; simp

theorem num_bd {L : Nat → Int} {k c : Nat} (h : okKey L k = true) (h1 : 1 ≤ c) (h3 : c ≤ 3) : -2147483648 ≤ L (k * 4 + c) ∧ L (k * 4 + c) ≤ 2147483648 := by
  obtain ⟨⟨-, hx, hy, hz⟩, -⟩ := key_of h
  match c, h1, h3 with
  | 1, _, _ => exact hx
  | 2, _, _ => exact hy
  | 3, _, _ => exact hz

/-- at a key's own time: its value -/
theorem val_own {way : Int} {n : Nat} {L : Nat → Int} (h : rightB way n L = true) {k c : Nat} (hk : k < n) (h1 : 1 ≤ c) (h3 : c ≤ 3) : valN way n L (L (k * 4)) c = L (k * 4 + c) := by
  have ok := (right_of h).2
  have hp := plc_own ok hk
  by_cases hl : n = k + 1 ∨ way = 0
  · exact valN_at h hp hl
  · rw [valN_way h hp (fun e => hl (.inl e)) (fun e => hl (.inr e))]
    have a := (key_of (ok k hk)).1.1
    have b := (key_of (ok (k + 1) (by omega))).1.1
    rw [part_own way a.1 (times_rise ok (by omega) (by omega)) b.2]
    have := num_bd (ok k hk) h1 h3
    exact lerp_none this.1 this.2

/-- between two keys the value lies between theirs -/
theorem val_between {way : Int} {n : Nat} {L : Nat → Int} {t : Int} (h : rightB way n L = true) {p c : Nat} (hp : plc L t n = p) (hn : p + 1 < n) (h1 : 1 ≤ c) (h3 : c ≤ 3) :
    min (L (p * 4 + c)) (L ((p + 1) * 4 + c)) ≤ valN way n L t c ∧ valN way n L t c ≤ max (L (p * 4 + c)) (L ((p + 1) * 4 + c)) := by
  have ok := (right_of h).2
  by_cases hw : way = 0
  · rw [valN_at h hp (.inr hw)]; omega
  · rw [valN_way h hp (by omega) hw]
    have a := num_bd (ok p (by omega)) h1 h3
    have b := num_bd (ok (p + 1) (by omega)) h1 h3
    have := Pl.lerp_between (L (p * 4 + c)) (L ((p + 1) * 4 + c)) (part way t (L (p * 4)) (L ((p + 1) * 4)))
    rwa [Pl.held_in a.1 a.2, Pl.held_in b.1 b.2] at this
end Go.Proofs.Ytcgafhpbcdmigaa.Tk
