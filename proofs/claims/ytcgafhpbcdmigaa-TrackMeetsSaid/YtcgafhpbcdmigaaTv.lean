/- A track's value, case by case. -/
import Derived.Test.YtcgafhpbcdmigaaTk
namespace Go.Proofs.Ytcgafhpbcdmigaa.Tk
open Go.Proofs.Ytcgafhpbcdmigaa

theorem valN_wrong {way : Int} {n : Nat} {L : Nat → Int} {t : Int} {c : Nat} (h : rightB way n L = false) : valN way n L t c = 0 := by
  unfold valN; rw [if_pos h]

theorem valN_ahead {way : Int} {n : Nat} {L : Nat → Int} {t : Int} {c : Nat} (h : rightB way n L = true) (hp : plc L t n = -1) : valN way n L t c = L c := by
  unfold valN; rw [if_neg (by rw [h]; simp), if_pos hp]

theorem valN_at {way : Int} {n : Nat} {L : Nat → Int} {t : Int} {c p : Nat} (h : rightB way n L = true) (hp : plc L t n = p) (hw : n = p + 1 ∨ way = 0) : valN way n L t c = L (p * 4 + c) := by
  unfold valN
  rw [if_neg (by rw [h]; simp), if_neg (by omega), if_pos (by rw [hp]; omega), hp]; simp

theorem valN_way {way : Int} {n : Nat} {L : Nat → Int} {t : Int} {c p : Nat} (h : rightB way n L = true) (hp : plc L t n = p) (hn : ¬ n = p + 1) (hw : ¬ way = 0) :
    valN way n L t c = Pl.lerp (L (p * 4 + c)) (L ((p + 1) * 4 + c)) (part way t (L (p * 4)) (L ((p + 1) * 4))) := by
  unfold valN
  rw [if_neg (by rw [h]; simp), if_neg (by omega), if_neg (by rw [hp]; omega), hp]; simp
end Go.Proofs.Ytcgafhpbcdmigaa.Tk
