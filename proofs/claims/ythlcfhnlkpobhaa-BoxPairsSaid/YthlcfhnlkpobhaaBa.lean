/- Boxes: as values; the small questions about them, the program's and the document's. -/
import Derived.Test.YthlcfhnlkpobhaaVf
import Derived.Test.YthlcfhnlkpobhaaVg
namespace Go.Proofs.Ythlcfhnlkpobhaa.Bx
open Go.RowKit Go.Proofs.Ythlcfhnlkpobhaa Go.Proofs.Ythlcfhnlkpobhaa.Wa Go.Proofs.Ythlcfhnlkpobhaa.Ve
set_option linter.unusedVariables false

/-- a box as a value -/
abbrev B6 (a b c d e f : Int) : Value := .agg #[.int .i64 a, .int .i64 b, .int .i64 c, .int .i64 d, .int .i64 e, .int .i64 f]

/-- on no axis one lies above the other -/
def le3 (a b c d e f : Int) : Bool := decide (a ≤ d) && (decide (b ≤ e) && decide (c ≤ f))

def has6 (a b c d e f x y z : Int) : Bool := le3 a b c x y z && le3 x y z d e f

def holds6 (a b c d e f x y z u v t : Int) : Bool := has6 a b c d e f x y z && has6 a b c d e f u v t

def meets6 (a b c d e f x y z u v t : Int) : Bool := le3 a b c u v t && le3 x y z d e f

theorem upto_any (a b c d e f : Int) (w : World) : Calls Try.prog 91 #[V3 a b c, V3 d e f] w fun e' w' => e' = .returned (.bool (le3 a b c d e f)) ∧ Below w.heap.size w w' := by
  by_cases h0 : a ≤ d
  · have d0 := decide_eq_true h0
    by_cases h1 : b ≤ e
    · have d1 := decide_eq_true h1
      by_cases h2 : c ≤ f
      · have d2 := decide_eq_true h2
        go_enter Try.func91, Try.ntmps91
        go_wp2
        go_ret
        exact ⟨by simp [le3, *], below_n2 _ _ _⟩
      · have d2 := decide_eq_false h2
        go_enter Try.func91, Try.ntmps91
        go_wp2
        go_ret
        exact ⟨by simp [le3, *], below_n2 _ _ _⟩
    · have d1 := decide_eq_false h1
      go_enter Try.func91, Try.ntmps91
      go_wp2
      go_ret
      exact ⟨by simp [le3, *], below_n2 _ _ _⟩
  · have d0 := decide_eq_false h0
    go_enter Try.func91, Try.ntmps91
    go_wp2
    go_ret
    exact ⟨by simp [le3, *], below_n2 _ _ _⟩

theorem bhas_any (a b c d e f x y z : Int) (w : World) : Calls Try.prog 40 #[B6 a b c d e f, V3 x y z] w fun e' w' => e' = .returned (.bool (has6 a b c d e f x y z)) ∧ Below w.heap.size w w' := by
  cases hp : le3 a b c x y z
  · go_enter Try.func40, Try.ntmps40
    go_wp2_with fail
    refine (upto_any a b c x y z _).mono ?_
    rintro e' w1 ⟨rfl, hb1⟩
    rw [hp]
    obtain ⟨hc, hf⟩ := bcell hb1
    have hz := hb1.size
    simp at hz
    go_wp2
    go_ret
    exact ⟨by simp [has6, hp], below_c2 hb1⟩
  · go_enter Try.func40, Try.ntmps40
    go_wp2_with fail
    refine (upto_any a b c x y z _).mono ?_
    rintro e' w1 ⟨rfl, hb1⟩
    rw [hp]
    obtain ⟨hc, hf⟩ := bcell hb1
    have hz := hb1.size
    simp at hz
    go_wp2_with fail
    refine (upto_any x y z d e f _).mono ?_
    rintro e' w2 ⟨rfl, hb2⟩
    go_wp2
    go_ret
    exact ⟨by simp [has6, hp], (below_c2 hb1).trans (hb2.mono (below_c2 hb1).size)⟩

theorem bmeets_any (a b c d e f x y z u v t : Int) (w : World) : Calls Try.prog 44 #[B6 a b c d e f, B6 x y z u v t] w fun e' w' => e' = .returned (.bool (meets6 a b c d e f x y z u v t)) ∧ Below w.heap.size w w' := by
  cases hp : le3 a b c u v t
  · go_enter Try.func44, Try.ntmps44
    go_wp2_with fail
    refine (upto_any a b c u v t _).mono ?_
    rintro e' w1 ⟨rfl, hb1⟩
    rw [hp]
    obtain ⟨hc, hf⟩ := bcell hb1
    have hz := hb1.size
    simp at hz
    go_wp2
    go_ret
    exact ⟨by simp [meets6, hp], below_c2 hb1⟩
  · go_enter Try.func44, Try.ntmps44
    go_wp2_with fail
    refine (upto_any a b c u v t _).mono ?_
    rintro e' w1 ⟨rfl, hb1⟩
    rw [hp]
    obtain ⟨hc, hf⟩ := bcell hb1
    have hz := hb1.size
    simp at hz
    go_wp2_with fail
    refine (upto_any x y z d e f _).mono ?_
    rintro e' w2 ⟨rfl, hb2⟩
    go_wp2
    go_ret
    exact ⟨by simp [meets6, hp], (below_c2 hb1).trans (hb2.mono (below_c2 hb1).size)⟩

theorem alike_any (n : Int) (w : World) : Calls Try.prog 69 #[.int .i64 n] w fun e' w' => e' = .returned (V3 n n n) ∧ Below w.heap.size w w' := by
  go_enter Try.func69, Try.ntmps69
  go_wp2_with fail
  refine (new_any _ _ _ _).mono ?_
  rintro e w1 ⟨rfl, hb⟩
  obtain ⟨hc, hf⟩ := bcell hb
  have hz := hb.size
  simp at hz
  go_wp2
  exact bodyPost_ret (v := V3 n n n) (by simp [results, Try.results69, go_sem, hc]) rfl ⟨rfl, below_put3 (below_c1 hb) (by omega) _ _ _⟩

theorem bsize_any (a b c d e f : Int) (w : World) : Calls Try.prog 77 #[B6 a b c d e f] w fun e' w' => e' = .returned (V3 (Pl.sub d a) (Pl.sub e b) (Pl.sub f c)) ∧ Below w.heap.size w w' := by
  go_enter Try.func77, Try.ntmps77
  go_wp2_with fail
  refine (vsub_any _ _ _ _ _ _ _).mono ?_
  rintro e' w1 ⟨rfl, hb⟩
  obtain ⟨hc, hf⟩ := bcell hb
  have hz := hb.size
  simp at hz
  go_wp2
  exact bodyPost_ret (v := V3 (Pl.sub d a) (Pl.sub e b) (Pl.sub f c)) (by simp [results, Try.results77, go_sem, hc]) rfl ⟨rfl, below_put3 (below_c2 hb) (by omega) _ _ _⟩

end Go.Proofs.Ythlcfhnlkpobhaa.Bx
