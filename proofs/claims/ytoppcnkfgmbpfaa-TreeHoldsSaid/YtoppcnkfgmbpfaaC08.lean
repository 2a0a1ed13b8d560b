/- The contracts of layer 2's functions on points, number by number. -/
import Derived.Test.YtoppcnkfgmbpfaaC06
import Derived.Test.YtoppcnkfgmbpfaaC07
namespace Go.Proofs.Ytoppcnkfgmbpfaa.Ve
open Go.RowKit Go.Proofs.Ytoppcnkfgmbpfaa Go.Proofs.Ytoppcnkfgmbpfaa.Wa

theorem vsub_any (ax ay az bx by_ bz : Int) (w : World) :
    Calls Try.prog 62 #[V3 ax ay az, V3 bx by_ bz] w fun e w' => e = .returned (V3 (Pl.sub ax bx) (Pl.sub ay by_) (Pl.sub az bz)) ∧ Below w.heap.size w w' := by
  go_enter Try.func62, Try.ntmps62
  go_wp2_with fail
  refine (each_sub _ _ _ _ _ _ _).mono ?_
  rintro e w1 ⟨rfl, hb⟩
  obtain ⟨hc, hf⟩ := bcell hb
  have hz := hb.size
  simp at hz
  go_wp2
  exact bodyPost_ret (v := V3 (Pl.sub ax bx) (Pl.sub ay by_) (Pl.sub az bz)) (by simp [results, Try.results62, go_sem, hc]) rfl ⟨rfl, below_put3 (below_c3 hb) (by omega) _ _ _⟩

theorem to_any (ax ay az : Int) (w : World) :
    Calls Try.prog 28 #[V3 ax ay az] w fun e w' => e = .returned (V3 ax ay az) ∧ Below w.heap.size w w' := by
  go_enter Try.func28, Try.ntmps28
  go_wp2
  exact bodyPost_ret (v := V3 ax ay az) (by simp [results, Try.results28, go_sem]) rfl ⟨rfl, below_n2 _ _ _⟩

theorem from_any (ax ay az : Int) (w : World) :
    Calls Try.prog 23 #[V3 ax ay az] w fun e w' => e = .returned (V3 ax ay az) ∧ Below w.heap.size w w' := by
  go_enter Try.func23, Try.ntmps23
  go_wp2
  exact bodyPost_ret (v := V3 ax ay az) (by simp [results, Try.results23, go_sem]) rfl ⟨rfl, below_n2 _ _ _⟩

theorem mix_any (ax ay az bx by_ bz t : Int) (w : World) :
    Calls Try.prog 61 #[V3 ax ay az, V3 bx by_ bz, .int .i64 t] w fun e w' => e = .returned (V3 (Pl.lerp ax bx t) (Pl.lerp ay by_ t) (Pl.lerp az bz t)) ∧ Below w.heap.size w w' := by
  have hmf : ∀ (fn : Fn) (first cap : Array Value) (w : World), (Instr.makeFunc fn first cap).run Try.prog w = .ok (.func fn first cap) w := fun _ _ _ _ => rfl
  go_enter Try.func61, Try.ntmps61
  go_wp2_with fail
  refine (each_mix _ _ _ _ _ _ t _ _ (by simp) (by go_simp)).mono ?_
  rintro e w1 ⟨rfl, hb⟩
  obtain ⟨hc, hf⟩ := bcell hb
  have hz := hb.size
  simp at hz
  go_wp2
  exact bodyPost_ret (v := V3 (Pl.lerp ax bx t) (Pl.lerp ay by_ t) (Pl.lerp az bz t)) (by simp [results, Try.results61, go_sem, hc]) rfl ⟨rfl, below_put3 (below_c4 hb) (by omega) _ _ _⟩

end Go.Proofs.Ytoppcnkfgmbpfaa.Ve
