/- What the library's cuts and numerals make of a number's own text; no two numbers have one text. -/
import Derived.Test.YtcgafhpbcdmigaaDoorQc
namespace Go.Proofs.YtcgafhpbcdmigaaDoor.Qa
open Go.RowKit Go.Proofs.YtcgafhpbcdmigaaDoor Go.Proofs.YtcgafhpbcdmigaaDoor.Wa Go.Proofs.YtcgafhpbcdmigaaDoor.Pl

theorem index_dot (P : List UInt8) : ∀ D : List UInt8, (∀ c ∈ D, c ≠ 46) → Lib.index (D ++ 46 :: P) [46] = D.length := by
  intro D
  induction D with
  | nil => intro _; rfl
  | cons c r ih =>
    intro h
    have hc : c ≠ 46 := h c (by simp)
    have hi := ih (fun x hx => h x (by simp [hx]))
    show (if [46].isPrefixOf (c :: (r ++ 46 :: P)) then (0 : Int) else if Lib.index (r ++ 46 :: P) [46] == -1 then -1 else Lib.index (r ++ 46 :: P) [46] + 1) = _
    rw [hi]
    have hp : [46].isPrefixOf (c :: (r ++ 46 :: P)) = false := by simp [List.isPrefixOf, Ne.symm hc]
    rw [hp]
    have hn : ((r.length : Int) == -1) = false := by first | (simp; done) | (simp; omega)
    rw [hn]; simp

theorem index_nodot : ∀ D : List UInt8, (∀ c ∈ D, c ≠ 46) → Lib.index D [46] = -1 := by
  intro D
  induction D with
  | nil => intro _; rfl
  | cons c r ih =>
    intro h
    have hc : c ≠ 46 := h c (by simp)
    have hi := ih (fun x hx => h x (by simp [hx]))
    show (if [46].isPrefixOf (c :: r) then (0 : Int) else if Lib.index r [46] == -1 then -1 else Lib.index r [46] + 1) = _
    rw [hi]
    have hp : [46].isPrefixOf (c :: r) = false := by simp [List.isPrefixOf, Ne.symm hc]
    rw [hp]; rfl

theorem cut_dot (D P : List UInt8) (h : ∀ c ∈ D, c ≠ 46) : Lib.cut (D ++ 46 :: P) [46] = (D, P, true) := by
  unfold Lib.cut
  rw [index_dot P D h, if_pos (by omega)]
  simp

theorem cut_none (D : List UInt8) (h : ∀ c ∈ D, c ≠ 46) : Lib.cut D [46] = (D, [], false) := by
  unfold Lib.cut
  rw [index_nodot D h, if_neg (by omega)]

/-- what stands behind the sign -/
def bodyOf (m : Nat) : List UInt8 := Lib.decDigits (m / 65536) ++ (if m % 65536 = 0 then [] else 46 :: digs 16 (m % 65536))

theorem text_body (h : Int) : textOf h = (if h < 0 then [45] else []) ++ bodyOf h.natAbs := by
  unfold textOf bodyOf; rw [List.append_assoc]

theorem body_head (m : Nat) : ∃ c r, bodyOf m = c :: r ∧ c ≠ 45 := by
  obtain ⟨hd, -, hne⟩ := dec_digits (m / 65536)
  unfold bodyOf
  cases hD : Lib.decDigits (m / 65536) with
  | nil => exact absurd hD hne
  | cons c r =>
    refine ⟨c, _, rfl, ?_⟩
    exact (no_dot hd c (by rw [hD]; simp)).2

theorem trim_text (h : Int) : Lib.trimPrefix (textOf h) [45] = bodyOf h.natAbs ∧ Lib.hasPrefix (textOf h) [45] = decide (h < 0) := by
  rw [text_body]
  by_cases hs : h < 0
  · rw [if_pos hs]
    have e : Lib.hasPrefix ([45] ++ bodyOf h.natAbs) [45] = true := by simp [Lib.hasPrefix, List.isPrefixOf]
    refine ⟨?_, by rw [e, decide_eq_true hs]⟩
    unfold Lib.trimPrefix; rw [e]; simp
  · rw [if_neg hs, List.nil_append]
    obtain ⟨c, r, hb, hc⟩ := body_head h.natAbs
    have e : Lib.hasPrefix (bodyOf h.natAbs) [45] = false := by rw [hb]; simp [Lib.hasPrefix, List.isPrefixOf, Ne.symm hc]
    refine ⟨?_, by rw [e, decide_eq_false hs]⟩
    unfold Lib.trimPrefix; rw [e]; simp

theorem cut_body (m : Nat) : ∃ c, Lib.cut (bodyOf m) [46] = (Lib.decDigits (m / 65536), digs 16 (m % 65536), c) := by
  obtain ⟨hd, -, -⟩ := dec_digits (m / 65536)
  have hn : ∀ c ∈ Lib.decDigits (m / 65536), c ≠ 46 := fun c hc => (no_dot hd c hc).1
  unfold bodyOf
  by_cases h0 : m % 65536 = 0
  · rw [if_pos h0, List.append_nil, cut_none _ hn, h0, digs_zero]; exact ⟨_, rfl⟩
  · rw [if_neg h0, cut_dot _ _ hn]; exact ⟨_, rfl⟩

theorem whole_parse (m : Nat) (hm : m ≤ 2147483648) : Lib.parseUintB 16 (Lib.decDigits (m / 65536)) = .ok (m / 65536) := by
  obtain ⟨hd, hv, hne⟩ := dec_digits (m / 65536)
  unfold Lib.parseUintB
  rw [if_neg hne, parse_val (by decide) _ 0 hd (by rw [hv]; omega), hv]

theorem part_parse (p : Nat) (hp : p < 65536) : Lib.parseUintB 64 (digs 16 p ++ zeros (16 - (digs 16 p).length)) = .ok (p * 152587890625) := by
  have hv := digs_units p hp
  have hl := digs_length 16 p
  unfold Lib.parseUintB
  rw [if_neg (by
    intro e
    have := congrArg List.length e
    rw [List.length_append] at this
    simp only [zeros, List.length_replicate, List.length_nil] at this; omega), parse_val (by decide) _ 0 (fun c hc => by
      rcases List.mem_append.1 hc with hc | hc
      · exact digs_digits 16 p hp c hc
      · unfold zeros at hc
        have := List.eq_of_mem_replicate hc
        rw [this]; unfold dgt; decide) (by rw [hv]; omega), hv]

theorem dec_short (m : Nat) (hm : m ≤ 2147483648) : (Lib.decDigits (m / 65536)).length ≤ 5 := Pl.dec_len 4 _ (by omega)

theorem body_len (m : Nat) (hm : m ≤ 2147483648) : (bodyOf m).length ≤ 22 := by
  have a := dec_short m hm
  have b := digs_length 16 (m % 65536)
  unfold bodyOf
  split <;> simp <;> omega

/-- the guess of a number's text is the number -/
theorem guess_text (h : Int) (h0 : -2147483648 ≤ h) (h1 : h ≤ 2147483648) (w : World) (hL : Laid w) :
    Calls Tryd.prog 13 #[.string ⟨(textOf h).toArray⟩] w fun e w' => e = .returned (.tuple #[.int .i64 h, .bool true]) ∧ Below w.heap.size w w' := by
  have hm : h.natAbs ≤ 2147483648 := by omega
  obtain ⟨c, hc⟩ := cut_body h.natAbs
  have a := body_len h.natAbs hm
  have b := dec_short h.natAbs hm
  have d := digs_length 16 (h.natAbs % 65536)
  have := guess_ok (textOf h) _ _ _ _ c (Lib.hid (trim_text h).1) (Lib.hid (trim_text h).2) (Lib.hid hc) (by omega) (by omega) d _ _ (Lib.hid (whole_parse h.natAbs hm)) (Lib.hid (part_parse (h.natAbs % 65536) (Nat.mod_lt _ (by omega)))) w hL
  have e : (if decide (h < 0) = true then -(((h.natAbs / 65536 : Nat) : Int) * 65536 + ((h.natAbs % 65536 * 152587890625 : Nat) : Int) / 152587890625) else ((h.natAbs / 65536 : Nat) : Int) * 65536 + ((h.natAbs % 65536 * 152587890625 : Nat) : Int) / 152587890625) = h := by
    have e1 : ((h.natAbs % 65536 * 152587890625 : Nat) : Int) / 152587890625 = ((h.natAbs % 65536 : Nat) : Int) := by omega
    rw [e1]
    by_cases hs : h < 0
    · rw [if_pos (by simpa using hs)]; omega
    · rw [if_neg (by simpa using hs)]; omega
  rw [e] at this
  exact this

theorem parse_yes (h : Int) (h0 : -2147483648 ≤ h) (h1 : h ≤ 2147483648) (w : World) (hL : Laid w) :
    Calls Tryd.prog 5 #[.string ⟨(textOf h).toArray⟩] w fun e w' => e = .returned (.tuple #[.int .i64 h, .int .i64 0]) ∧ Below w.heap.size w w' :=
  parse_of _ h (Lib.hid (by rw [held_in h0 h1])) (Lib.hid (fun w hL => guess_text h h0 h1 w hL)) w hL
end Go.Proofs.YtcgafhpbcdmigaaDoor.Qa
