/- The contracts of the program's texts, read and written: the number of a text, or that there is none. -/
import Derived.Test.YtcgafhpbcdmigaaDoorQb
namespace Go.Proofs.YtcgafhpbcdmigaaDoor.Qa
open Go.RowKit Go.Proofs.YtcgafhpbcdmigaaDoor Go.Proofs.YtcgafhpbcdmigaaDoor.Wa
set_option linter.unusedVariables false

theorem text_is (a : Int) (x : List UInt8) (hx : Pl.textOf (Pl.held a) = x) (w : World) (hL : Laid w) : Calls Tryd.prog 7 #[.int .i64 a] w fun e w' => e = .returned (.string ⟨x.toArray⟩) ∧ Below w.heap.size w w' := by
  subst hx
  have h0 := Pl.held_lo a
  have h1 := Pl.held_hi a
  exact text_held (Pl.held a) (Pl.held a).natAbs rfl (by omega) a (Lib.hid rfl) w (itoa_at _ (by omega) (by omega) w hL)

theorem trim_len (t p : List UInt8) : (Lib.trimPrefix t p).length ≤ t.length := by
  unfold Lib.trimPrefix; split <;> simp

theorem cut_len (x p : List UInt8) : (Lib.cut x p).1.length ≤ x.length ∧ (Lib.cut x p).2.1.length ≤ x.length := by
  unfold Lib.cut; split
  · exact ⟨by simp only [List.length_take]; omega, by simp⟩
  · simp

/-- the guess answers something, whatever comes in -/
theorem guess_ex (t : List UInt8) (ht : t.length ≤ 200) : ∃ (a : Int) (ok : Bool), ∀ w, Laid w → Calls Tryd.prog 13 #[.string ⟨t.toArray⟩] w fun e w' => e = .returned (.tuple #[.int .i64 a, .bool ok]) ∧ Below w.heap.size w w' := by
  obtain ⟨x, hx⟩ : ∃ x, Lib.trimPrefix t [45] = x := ⟨_, rfl⟩
  obtain ⟨b, hb⟩ : ∃ b, Lib.hasPrefix t [45] = b := ⟨_, rfl⟩
  obtain ⟨y, z, c, hc⟩ : ∃ y z c, Lib.cut x [46] = (y, z, c) := ⟨_, _, _, rfl⟩
  have lx := trim_len t [45]
  have ly := cut_len x [46]
  rw [hx] at lx
  rw [hc] at ly
  obtain ⟨ly, lz⟩ := ly
  simp only at ly lz
  have HX := Lib.hid hx
  have HB := Lib.hid hb
  have HC := Lib.hid hc
  by_cases hz : z.length ≤ 16
  · by_cases hp : ∃ u, Lib.parseUintB 16 y = .ok u
    · obtain ⟨u1, hp⟩ := hp
      by_cases hq : ∃ u, Lib.parseUintB 64 (z ++ Pl.zeros (16 - z.length)) = .ok u
      · obtain ⟨u2, hq⟩ := hq
        exact ⟨_, true, fun w hL => guess_ok t x y z b c HX HB HC (by omega) (by omega) hz u1 u2 (Lib.hid hp) (Lib.hid hq) w hL⟩
      · exact ⟨0, false, fun w hL => guess_part t x y z b c HX HB HC (by omega) (by omega) hz u1 (Lib.hid hp) (Lib.hid (fun u h => hq ⟨u, h⟩)) w hL⟩
    · exact ⟨0, false, fun w hL => guess_whole t x y z b c HX HB HC (by omega) (by omega) hz (Lib.hid (fun u h => hp ⟨u, h⟩)) w hL⟩
  · exact ⟨0, false, fun w hL => guess_long t x y z b c HX HB HC (by omega) (by omega) (by omega) (by omega) w hL⟩

set_option maxHeartbeats 1000000 in
/-- no number's text: no number -/
theorem parse_no (t : List UInt8) (ht : t.length ≤ 200) (hno : ∀ a, Pl.textOf (Pl.held a) ≠ t) (w : World) (hL : Laid w) :
    Calls Tryd.prog 5 #[.string ⟨t.toArray⟩] w fun e w' => e = .returned (.tuple #[.int .i64 0, .int .i64 10]) ∧ Below w.heap.size w w' := by
  obtain ⟨a, ok, hg⟩ := guess_ex t ht
  have HG := Lib.hid (hg w hL)
  clear hg
  cases ok
  · go_enter Tryd.func5, Tryd.ntmps5
    go_wp2_with fail
    refine HG.out.mono ?_
    rintro e w1 ⟨rfl, hb1⟩
    go_wp2
    go_ret2
    exact ⟨rfl, hb1⟩
  · obtain ⟨x, hx⟩ : ∃ x, Pl.textOf (Pl.held a) = x := ⟨_, rfl⟩
    have hne : ¬ x = t := by rw [← hx]; exact hno a
    have HX := Lib.hid hx
    have hbb : (x == t) = false := by simpa using hne
    clear hx hno
    go_enter Tryd.func5, Tryd.ntmps5
    go_wp2_with fail
    refine HG.out.mono ?_
    rintro e w1 ⟨rfl, hb1⟩
    go_wp2_with fail
    refine (text_is a x HX.out _ (hL.on hb1)).mono ?_
    rintro e w2 ⟨rfl, hb2⟩
    go_wp2
    go_ret2
    exact ⟨rfl, hb1.trans (hb2.mono hb1.size)⟩

set_option maxHeartbeats 1000000 in
/-- a number's text: the number -/
theorem parse_of (t : List UInt8) (h : Int) (hh : Hid (Pl.textOf (Pl.held h) = t)) (hg : Hid (∀ w, Laid w → Calls Tryd.prog 13 #[.string ⟨t.toArray⟩] w fun e w' => e = .returned (.tuple #[.int .i64 h, .bool true]) ∧ Below w.heap.size w w')) (w : World) (hL : Laid w) :
    Calls Tryd.prog 5 #[.string ⟨t.toArray⟩] w fun e w' => e = .returned (.tuple #[.int .i64 h, .int .i64 0]) ∧ Below w.heap.size w w' := by
  go_enter Tryd.func5, Tryd.ntmps5
  go_wp2_with fail
  refine (hg.out _ hL).mono ?_
  rintro e w1 ⟨rfl, hb1⟩
  go_wp2_with fail
  refine (text_is h t hh.out _ (hL.on hb1)).mono ?_
  rintro e w2 ⟨rfl, hb2⟩
  go_wp2
  go_ret2
  exact ⟨rfl, hb1.trans (hb2.mono hb1.size)⟩
end Go.Proofs.YtcgafhpbcdmigaaDoor.Qa
