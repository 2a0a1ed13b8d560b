/- Boxes: as values; the small questions about them, the program's and the document's. -/
import Derived.Test.YtplcbdmiccpnnaaVf
import Derived.Test.YtplcbdmiccpnnaaVg
namespace Go.Proofs.Ytplcbdmiccpnnaa.Bx
open Go.RowKit Go.Proofs.Ytplcbdmiccpnnaa Go.Proofs.Ytplcbdmiccpnnaa.Wa Go.Proofs.Ytplcbdmiccpnnaa.Ve
set_option linter.unusedVariables false

/-- a box as a value -/
abbrev B6 (a b c d e f : Int) : Value := .agg #[.int .i64 a, .int .i64 b, .int .i64 c, .int .i64 d, .int .i64 e, .int .i64 f]

/-- on no axis one lies above the other -/
def le3 (a b c d e f : Int) : Bool := decide (a ≤ d) && (decide (b ≤ e) && decide (c ≤ f))

def has6 (a b c d e f x y z : Int) : Bool := le3 a b c x y z && le3 x y z d e f

def holds6 (a b c d e f x y z u v t : Int) : Bool := has6 a b c d e f x y z && has6 a b c d e f u v t

def meets6 (a b c d e f x y z u v t : Int) : Bool := le3 a b c u v t && le3 x y z d e f

theorem bmiddle_any (a b c d e f : Int) (w : World) : Calls Try.prog 92 #[B6 a b c d e f] w fun e' w' => e' = .returned (V3 (Pl.lerp a d 32768) (Pl.lerp b e 32768) (Pl.lerp c f 32768)) ∧ Below w.heap.size w w' := by
  go_enter Try.func92, Try.ntmps92
  go_wp2_with fail
  refine (mix_any _ _ _ _ _ _ _ _).mono ?_
  rintro e' w1 ⟨rfl, hb⟩
  obtain ⟨hc, hf⟩ := bcell hb
  have hz := hb.size
  simp at hz
  go_wp2
  exact bodyPost_ret (v := V3 (Pl.lerp a d 32768) (Pl.lerp b e 32768) (Pl.lerp c f 32768)) (by simp [results, Try.results92, go_sem, hc]) rfl ⟨rfl, below_put3 (below_c2 hb) (by omega) _ _ _⟩

theorem bsize_any (a b c d e f : Int) (w : World) : Calls Try.prog 94 #[B6 a b c d e f] w fun e' w' => e' = .returned (V3 (Pl.sub d a) (Pl.sub e b) (Pl.sub f c)) ∧ Below w.heap.size w w' := by
  go_enter Try.func94, Try.ntmps94
  go_wp2_with fail
  refine (vsub_any _ _ _ _ _ _ _).mono ?_
  rintro e' w1 ⟨rfl, hb⟩
  obtain ⟨hc, hf⟩ := bcell hb
  have hz := hb.size
  simp at hz
  go_wp2
  exact bodyPost_ret (v := V3 (Pl.sub d a) (Pl.sub e b) (Pl.sub f c)) (by simp [results, Try.results94, go_sem, hc]) rfl ⟨rfl, below_put3 (below_c2 hb) (by omega) _ _ _⟩

end Go.Proofs.Ytplcbdmiccpnnaa.Bx
