/- The contracts of layer 5's functions, kind by kind. -/
import Derived.Test.YtgpbnpnnbipfpaaE13
import Derived.Test.YtgpbnpnnbipfpaaE18
import Derived.Test.YtgpbnpnnbipfpaaE19
import Derived.Test.YtgpbnpnnbipfpaaE20
namespace Go.Proofs.Ytgpbnpnnbipfpaa.He
open Go.RowKit Go.Proofs.Ytgpbnpnnbipfpaa Go.Proofs.Ytgpbnpnnbipfpaa.Wa Go.Proofs.Ytgpbnpnnbipfpaa.Ve

theorem gray_any (n : Int) (w : World) :
    Calls Try.prog 20 #[.int .i64 n] w fun e w' => e = .returned (V3 n n n) ∧ Below w.heap.size w w' := by
  go_enter Try.func20, Try.ntmps20
  go_wp2
  exact bodyPost_ret (v := V3 n n n) (by simp [results, Try.results20, go_sem]) rfl ⟨rfl, below_n1 _ _⟩

/-- the mean, kind by kind -/
def mean (n x : Int) : Int := if n < 1 then 0 else Pl.div x (Pl.ofWhole n)

theorem hto_any (ax ay az : Int) (w : World) :
    Calls Try.prog 22 #[V3 ax ay az] w fun e w' => e = .returned (V3 ax ay az) ∧ Below w.heap.size w w' := by
  go_enter Try.func22, Try.ntmps22
  go_wp2
  exact bodyPost_ret (v := V3 ax ay az) (by simp [results, Try.results22, go_sem]) rfl ⟨rfl, below_n2 _ _ _⟩

theorem hfrom_any (ax ay az : Int) (w : World) :
    Calls Try.prog 30 #[V3 ax ay az] w fun e w' => e = .returned (V3 ax ay az) ∧ Below w.heap.size w w' := by
  go_enter Try.func30, Try.ntmps30
  go_wp2
  exact bodyPost_ret (v := V3 ax ay az) (by simp [results, Try.results30, go_sem]) rfl ⟨rfl, below_n2 _ _ _⟩

theorem hmix_any (ax ay az bx by_ bz t : Int) (w : World) :
    Calls Try.prog 26 #[V3 ax ay az, V3 bx by_ bz, .int .i64 t] w fun e w' => e = .returned (V3 (Pl.lerp ax bx t) (Pl.lerp ay by_ t) (Pl.lerp az bz t)) ∧ Below w.heap.size w w' := by
  have hmf : ∀ (fn : Fn) (first cap : Array Value) (w : World), (Instr.makeFunc fn first cap).run Try.prog w = .ok (.func fn first cap) w := fun _ _ _ _ => rfl
  go_enter Try.func26, Try.ntmps26
  go_wp2_with fail
  refine (heach_mix _ _ _ _ _ _ t _ _ (by simp) (by go_simp)).mono ?_
  rintro e w1 ⟨rfl, hb⟩
  obtain ⟨hc, hf⟩ := bcell hb
  have hz := hb.size
  simp at hz
  go_wp2
  exact bodyPost_ret (v := V3 (Pl.lerp ax bx t) (Pl.lerp ay by_ t) (Pl.lerp az bz t)) (by simp [results, Try.results26, go_sem, hc]) rfl ⟨rfl, below_put3 (below_c4 hb) (by omega) _ _ _⟩

end Go.Proofs.Ytgpbnpnnbipfpaa.He
