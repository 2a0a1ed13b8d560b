/- Layer 21 (plate): what bytes are read as, by the program. -/
import Derived.Test.YtcohehekkeeeoaaDoorPgn
namespace Go.Proofs.YtcohehekkeeeoaaDoor.Pg
open Go Go.RowKit Go.Proofs.YtcohehekkeeeoaaDoor Go.Proofs.YtcohehekkeeeoaaDoor.Re Go.Proofs.YtcohehekkeeeoaaDoor.Au
set_option linter.unusedVariables false
set_option linter.unusedSimpArgs false

theorem take_split {l t : List UInt8} {k : Nat} (hk : k = t.length) (h : l.take k = t) : l = t ++ l.drop k := by rw [← h, List.take_append_drop]

theorem head_of {l r1 r2 : List UInt8} {m m2 : Nat} (h1 : l.take 3 = [80, 54, 10]) (h2 : sideR 0 0 (l.drop 3) 32 = some (m, r1)) (h3 : sideR 0 0 r1 10 = some (m2, r2)) (h4 : r2.take 4 = [50, 53, 53, 10]) : l = headL m m2 ++ r2.drop 4 := by
  have e1 := take_split (k := 3) (t := [80, 54, 10]) rfl h1
  have e2 := (dec_side (by decide) h2).1
  have e3 := (dec_side (by decide) h3).1
  have e4 := take_split (k := 4) (t := [50, 53, 53, 10]) rfl h4
  have e5 : l = [80, 54, 10] ++ (dec m ++ 32 :: (dec m2 ++ 10 :: ([50, 53, 53, 10] ++ r2.drop 4))) := by rw [← e4, ← e3, ← e2]; exact e1
  rw [e5]
  simp [headL]

theorem head_sides {l r : List UInt8} {wn hn : Nat} (h : HeadOf l wn hn r) : l.take 3 = [80, 54, 10] ∧ sideR 0 0 (l.drop 3) 32 = some (wn, dec hn ++ 10 :: ([50, 53, 53, 10] ++ r)) ∧ sideR 0 0 (dec hn ++ 10 :: ([50, 53, 53, 10] ++ r)) 10 = some (hn, [50, 53, 53, 10] ++ r) := by
  obtain ⟨h0, h1, h2, h3, h4⟩ := h
  refine ⟨by rw [h0]; rfl, ?_, side_dec h3 (by omega) (by decide) _⟩
  rw [h0]
  have : (headL wn hn ++ r).drop 3 = dec wn ++ 32 :: (dec hn ++ 10 :: ([50, 53, 53, 10] ++ r)) := by simp [headL]
  rw [this]
  exact side_dec h1 (by omega) (by decide) _

/-- Decode by the program -/
theorem decode_any (a : Option Addr) (n c : Nat) (l : List UInt8) (w : World) (hl : BA w a n c l) (hn : n ≤ 140737488351232) : Calls Tryd.prog 23 #[.slice a n c] w fun e' w' => ∃ (e wn hn K : Nat) (D : List UInt8) (v : Value), Dec l e wn hn D ∧ e' = .returned (.tuple #[.agg #[.int .i64 wn, .int .i64 hn, v], .int .i64 e]) ∧ K = wn * hn ∧ w'.ownsRow w.heap.size 69 3 v K (vals D) ∧ Below w.heap.size w w' := by
  have zero : ∀ (e : Nat), Dec l e 0 0 [] → ∀ {e' : Ending} {w' : World}, e' = .returned (.tuple #[.agg #[.int .i64 0, .int .i64 0, .slice none 0 0], .int .i64 e]) ∧ Below w.heap.size w w' →
      ∃ (e wn hn K : Nat) (D : List UInt8) (v : Value), Dec l e wn hn D ∧ e' = .returned (.tuple #[.agg #[.int .i64 wn, .int .i64 hn, v], .int .i64 e]) ∧ K = wn * hn ∧ w'.ownsRow w.heap.size 69 3 v K (vals D) ∧ Below w.heap.size w w' :=
    fun e hd e' w' ⟨he, hb⟩ => ⟨e, 0, 0, 0, [], .slice none 0 0, hd, he, rfl, World.ownsRow_nil _ _ _ _, hb⟩
  by_cases h3 : 3 ≤ n
  · by_cases hm : l.take 3 = [80, 54, 10]
    · have noHead : (∀ wn hn r, sideR 0 0 (l.drop 3) 32 = some (wn, dec hn ++ 10 :: ([50, 53, 53, 10] ++ r)) → sideR 0 0 (dec hn ++ 10 :: ([50, 53, 53, 10] ++ r)) 10 = some (hn, [50, 53, 53, 10] ++ r) → Fm.okSz (wn : Int) (hn : Int) → False) → Dec l 10 0 0 [] := fun hf =>
        .form hm (fun wn hn r hh => hf wn hn r (head_sides hh).2.1 (head_sides hh).2.2 ⟨by have := hh.2.1; omega, by have := hh.2.2.1; omega, by have := hh.2.2.2.1; omega, by have := hh.2.2.2.2; omega⟩)
      rcases hs : sideR 0 0 (l.drop 3) 32 with _ | ⟨m, r1⟩
      · exact (decode_no1 a n c l w hl hn h3 hm hs).mono fun e' w' h => zero 10 (noHead (fun wn hn r h1 _ _ => by rw [hs] at h1; cases h1)) h
      · rcases hs2 : sideR 0 0 r1 10 with _ | ⟨m2, r2⟩
        · exact (decode_no2 a n c l w hl hn h3 hm m r1 hs hs2).mono fun e' w' h => zero 10 (noHead (fun wn hn r h1 h2 _ => by rw [hs] at h1; simp only [Option.some.injEq, Prod.mk.injEq] at h1; rw [← h1.2, hs2] at h2; cases h2)) h
        · by_cases hok : Fm.okSz (m : Int) (m2 : Int)
          · have hN := (dec_side (by decide) hs2).2
            by_cases h4 : 4 ≤ r2.length
            · by_cases hd : r2.take 4 = [50, 53, 53, 10]
              · have hh : HeadOf l m m2 (r2.drop 4) := ⟨head_of hm hs hs2 hd, by have := hok.1; omega, by have := hok.2.1; omega, by have := hok.2.2.1; omega, by have := hok.2.2.2; omega⟩
                have hcast : ((m * m2 : Nat) : Int) = (m : Int) * (m2 : Int) := by simp
                rcases Nat.lt_trichotomy (r2.length - 4) (3 * (m * m2)) with hlt | heq | hgt
                · exact (decode_few a n c l w hl hn h3 hm m m2 r1 r2 hs hs2 hok h4 hd (by rw [← hcast]; omega)).mono fun e' w' h => zero 9 (.short hh (by rw [List.length_drop]; exact hlt)) h
                · refine (decode_ok a n c l w hl hn h3 hm m m2 r1 r2 hs hs2 hok h4 hd (m * m2) rfl heq).mono ?_
                  rintro e' w' ⟨v, he, ho, hb⟩
                  exact ⟨0, m, m2, m * m2, r2.drop 4, v, .ok hh (by rw [List.length_drop]; exact heq), he, rfl, ho, hb⟩
                · exact (decode_many a n c l w hl hn h3 hm m m2 r1 r2 hs hs2 hok h4 hd (by rw [← hcast]; omega)).mono fun e' w' h => zero 10 (.long hh (by rw [List.length_drop]; exact hgt)) h
              · exact (decode_depth a n c l w hl hn h3 hm m m2 r1 r2 hs hs2 hok h4 hd).mono fun e' w' h => zero 10 (noHead (fun wn hn r h1 h2 _ => by
                  rw [hs] at h1
                  simp only [Option.some.injEq, Prod.mk.injEq] at h1
                  rw [← h1.2, hs2] at h2
                  simp only [Option.some.injEq, Prod.mk.injEq] at h2
                  rw [h2.2] at hd
                  exact hd rfl)) h
            · exact (decode_dshort a n c l w hl hn h3 hm m m2 r1 r2 hs hs2 hok (by omega)).mono fun e' w' h => zero 10 (noHead (fun wn hn r h1 h2 _ => by
                rw [hs] at h1
                simp only [Option.some.injEq, Prod.mk.injEq] at h1
                rw [← h1.2, hs2] at h2
                simp only [Option.some.injEq, Prod.mk.injEq] at h2
                rw [h2.2] at h4
                simp at h4)) h
          · exact (decode_size a n c l w hl hn h3 hm m m2 r1 r2 hs hs2 hok).mono fun e' w' h => zero 10 (noHead (fun wn hn r h1 h2 hk => by
              rw [hs] at h1
              simp only [Option.some.injEq, Prod.mk.injEq] at h1
              rw [← h1.2, hs2] at h2
              simp only [Option.some.injEq, Prod.mk.injEq] at h2
              rw [h1.1, h2.1] at hok
              exact hok hk)) h
    · exact (decode_magic a n c l w hl hn h3 hm).mono fun e' w' h => zero 20 (.magic hm) h
  · exact (decode_short a n c l w hl hn (by omega)).mono fun e' w' h => zero 20 (.magic (fun hm => by
      have := congrArg List.length hm
      rw [List.length_take, ← hl.1] at this
      simp at this
      omega)) h

end Go.Proofs.YtcohehekkeeeoaaDoor.Pg
