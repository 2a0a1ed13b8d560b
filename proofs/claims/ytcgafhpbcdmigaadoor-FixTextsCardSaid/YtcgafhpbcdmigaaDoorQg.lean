/- Both words on the number of a text, the program's and the document's, agree. -/
import Derived.Test.YtcgafhpbcdmigaaDoorQf
namespace Go.Proofs.YtcgafhpbcdmigaaDoor.Qa
open Go.RowKit Go.Proofs.YtcgafhpbcdmigaaDoor Go.Proofs.YtcgafhpbcdmigaaDoor.Wa Go.Proofs.YtcgafhpbcdmigaaDoor.Pl
set_option linter.unusedVariables false

set_option maxHeartbeats 1000000 in
set_option maxRecDepth 100000 in
theorem rparse_empty (s : ByteArray) (hL : s.size = 0) (w : World) :
    Calls Tryd.prog 6 #[.string s] w fun e w' => e = .returned (.tuple #[.int .i64 0, .int .i64 10]) ∧ Below w.heap.size w w' := by
  go_enter Tryd.func6, Tryd.ntmps6
  go_wp2_with fail
  go_loopw [5, 6] (fun d i wr => d = .int .i64 0 ∧ i = .int .i64 0 ∧ w = wr) (fun _ i _ => 0)
  case atStart => exact ⟨rfl, rfl, rfl⟩
  case round =>
    obtain ⟨rfl, rfl, rfl⟩ := hrel
    go_wp2_with fail
    go_ret2
    exact ⟨rfl, Below.refl _ _⟩

theorem str_eta (s : ByteArray) : (⟨s.data.toList.toArray⟩ : ByteArray) = s := by cases s; simp

theorem text_one {a h : Int} (a0 : -2147483648 ≤ a) (a1 : a ≤ 2147483648) (h0 : -2147483648 ≤ h) (h1 : h ≤ 2147483648) (e : textOf a = textOf h) : a = h := by
  have va := trim_text a
  have vh := trim_text h
  rw [e] at va
  have ts : decide (a < 0) = decide (h < 0) := va.2.symm.trans vh.2
  have tb : bodyOf a.natAbs = bodyOf h.natAbs := va.1.symm.trans vh.1
  obtain ⟨c, hc⟩ := cut_body a.natAbs
  obtain ⟨d, hd⟩ := cut_body h.natAbs
  rw [tb, hd] at hc
  injection hc with e1 e2
  injection e2 with e2 _
  have n1 := (dec_digits (a.natAbs / 65536)).2.1
  have n2 := (dec_digits (h.natAbs / 65536)).2.1
  rw [← e1] at n1
  have p1 := partOf_digs 16 (a.natAbs % 65536) (Nat.mod_lt _ (by omega)) (by omega) (by simp)
  have p2 := partOf_digs 16 (h.natAbs % 65536) (Nat.mod_lt _ (by omega)) (by omega) (by simp)
  rw [← e2] at p1
  have s1 : a < 0 ↔ h < 0 := by simpa using ts
  omega

theorem list_of {t : List UInt8} {s : ByteArray} (h : (⟨t.toArray⟩ : ByteArray) = s) : s.data.toList = t := by subst h; simp

/-- the document's answer, by whether the text is a number's -/
theorem rparse_is (s : ByteArray) (ht : s.size ≤ 200) (w : World) :
    (∀ h : Int, -2147483648 ≤ h → h ≤ 2147483648 → (⟨(textOf h).toArray⟩ : ByteArray) = s → Calls Tryd.prog 6 #[.string s] w fun e w' => e = .returned (.tuple #[.int .i64 h, .int .i64 0]) ∧ Below w.heap.size w w') ∧
    ((∀ h : Int, -2147483648 ≤ h → h ≤ 2147483648 → (⟨(textOf h).toArray⟩ : ByteArray) ≠ s) → Calls Tryd.prog 6 #[.string s] w fun e w' => e = .returned (.tuple #[.int .i64 0, .int .i64 10]) ∧ Below w.heap.size w w') := by
  have main : ∀ neg f, (∀ h : Int, -2147483648 ≤ h → h ≤ 2147483648 → (⟨(textOf h).toArray⟩ : ByteArray) = s → Good neg f s) → (Calls Tryd.prog 6 #[.string s] w fun e w' => PRes neg f s e ∧ Below w.heap.size w w') →
      (∀ h : Int, -2147483648 ≤ h → h ≤ 2147483648 → (⟨(textOf h).toArray⟩ : ByteArray) = s → Calls Tryd.prog 6 #[.string s] w fun e w' => e = .returned (.tuple #[.int .i64 h, .int .i64 0]) ∧ Below w.heap.size w w') ∧
      ((∀ h : Int, -2147483648 ≤ h → h ≤ 2147483648 → (⟨(textOf h).toArray⟩ : ByteArray) ≠ s) → Calls Tryd.prog 6 #[.string s] w fun e w' => e = .returned (.tuple #[.int .i64 0, .int .i64 10]) ∧ Below w.heap.size w w') := by
    intro neg f hg hc
    refine ⟨fun h h0 h1 hs => hc.mono ?_, fun hno => hc.mono ?_⟩
    · rintro e w' ⟨hp, hb⟩
      refine ⟨?_, hb⟩
      rcases hp with ⟨_, hn⟩ | ⟨a, he, ha, a0, a1⟩
      · exact absurd (hg h h0 h1 hs) hn
      · have : a = h := text_one a0 a1 h0 h1 ((list_of ha).symm.trans (list_of hs))
        rw [he, this]
    · rintro e w' ⟨hp, hb⟩
      refine ⟨?_, hb⟩
      rcases hp with ⟨he, _⟩ | ⟨a, he, ha, a0, a1⟩
      · exact he
      · exact absurd ha (hno a a0 a1)
  have sign : ∀ h : Int, (⟨(textOf h).toArray⟩ : ByteArray) = s → (0 < s.size) ∧ (at_ s 0 = 45 ↔ h < 0) := by
    intro h hs
    subst hs
    have hz : (⟨(textOf h).toArray⟩ : ByteArray).size = (textOf h).length := by show (textOf h).toArray.size = _; simp
    rw [hz, at_list, text_body]
    by_cases hh : h < 0
    · rw [if_pos hh]; simp [hh]
    · rw [if_neg hh]
      obtain ⟨c, r, hb, hc⟩ := body_head h.natAbs
      rw [hb]
      have : ¬ c.toNat = 45 := fun e => hc (UInt8.toNat_inj.1 e)
      simp [hh, this]
  by_cases hL : s.size = 0
  · have he := rparse_empty s hL w
    refine ⟨fun h h0 h1 hs => ?_, fun _ => he⟩
    have := (sign h hs).1
    omega
  · by_cases h45 : at_ s 0 = 45
    · refine main true 1 (fun h h0 h1 hs => ?_) (rparse_neg s s.size rfl ht h45 (by omega) w)
      have g := text_good h h0 h1
      have hh := (sign h hs).2.1 h45
      rw [hs] at g
      simpa [hh] using g
    · refine main false 0 (fun h h0 h1 hs => ?_) (rparse_pos s s.size rfl ht h45 (by omega) w)
      have g := text_good h h0 h1
      have hh : ¬ h < 0 := fun x => h45 ((sign h hs).2.2 x)
      rw [hs] at g
      simpa [hh] using g

/-- the two agree -/
theorem both (s : ByteArray) (ht : s.size ≤ 200) : ∃ x r : Int, (∀ w, Laid w → Calls Tryd.prog 5 #[.string s] w fun e w' => e = .returned (.tuple #[.int .i64 x, .int .i64 r]) ∧ Below w.heap.size w w') ∧
    (∀ w, Calls Tryd.prog 6 #[.string s] w fun e w' => e = .returned (.tuple #[.int .i64 x, .int .i64 r]) ∧ Below w.heap.size w w') := by
  by_cases hh : ∃ h : Int, -2147483648 ≤ h ∧ h ≤ 2147483648 ∧ (⟨(textOf h).toArray⟩ : ByteArray) = s
  · obtain ⟨h, h0, h1, hs⟩ := hh
    refine ⟨h, 0, fun w hL => ?_, fun w => (rparse_is s ht w).1 h h0 h1 hs⟩
    have := parse_yes h h0 h1 w hL
    rw [hs] at this
    exact this
  · have hno : ∀ h : Int, -2147483648 ≤ h → h ≤ 2147483648 → (⟨(textOf h).toArray⟩ : ByteArray) ≠ s := fun h h0 h1 hs => hh ⟨h, h0, h1, hs⟩
    refine ⟨0, 10, fun w hL => ?_, fun w => (rparse_is s ht w).2 hno⟩
    have hl : s.data.toList.length ≤ 200 := ht
    have := parse_no s.data.toList hl (fun a e => hno (held a) (held_lo a) (held_hi a) (by rw [e, str_eta])) w hL
    rw [str_eta] at this
    exact this
end Go.Proofs.YtcgafhpbcdmigaaDoor.Qa
