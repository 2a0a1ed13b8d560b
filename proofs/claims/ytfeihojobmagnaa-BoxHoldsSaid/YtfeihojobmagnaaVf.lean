/- The contracts of layer 2's functions on points, number by number. -/
import Derived.Test.YtfeihojobmagnaaVc
import Derived.Test.YtfeihojobmagnaaVea
import Derived.Test.YtfeihojobmagnaaVes
import Derived.Test.YtfeihojobmagnaaVem
import Derived.Test.YtfeihojobmagnaaVex
namespace Go.Proofs.Ytfeihojobmagnaa.Ve
open Go.RowKit Go.Proofs.Ytfeihojobmagnaa Go.Proofs.Ytfeihojobmagnaa.Wa

theorem vadd_any (ax ay az bx by_ bz : Int) (w : World) :
    Calls Try.prog 87 #[V3 ax ay az, V3 bx by_ bz] w fun e w' => e = .returned (V3 (Pl.add ax bx) (Pl.add ay by_) (Pl.add az bz)) ∧ Below w.heap.size w w' := by
  go_enter Try.func87, Try.ntmps87
  go_wp2_with fail
  refine (each_add _ _ _ _ _ _ _).mono ?_
  rintro e w1 ⟨rfl, hb⟩
  obtain ⟨hc, hf⟩ := bcell hb
  have hz := hb.size
  simp at hz
  go_wp2
  exact bodyPost_ret (v := V3 (Pl.add ax bx) (Pl.add ay by_) (Pl.add az bz)) (by simp [results, Try.results87, go_sem, hc]) rfl ⟨rfl, below_put3 (below_c3 hb) (by omega) _ _ _⟩

theorem vsub_any (ax ay az bx by_ bz : Int) (w : World) :
    Calls Try.prog 85 #[V3 ax ay az, V3 bx by_ bz] w fun e w' => e = .returned (V3 (Pl.sub ax bx) (Pl.sub ay by_) (Pl.sub az bz)) ∧ Below w.heap.size w w' := by
  go_enter Try.func85, Try.ntmps85
  go_wp2_with fail
  refine (each_sub _ _ _ _ _ _ _).mono ?_
  rintro e w1 ⟨rfl, hb⟩
  obtain ⟨hc, hf⟩ := bcell hb
  have hz := hb.size
  simp at hz
  go_wp2
  exact bodyPost_ret (v := V3 (Pl.sub ax bx) (Pl.sub ay by_) (Pl.sub az bz)) (by simp [results, Try.results85, go_sem, hc]) rfl ⟨rfl, below_put3 (below_c3 hb) (by omega) _ _ _⟩

theorem vneg_any (ax ay az : Int) (w : World) :
    Calls Try.prog 157 #[V3 ax ay az] w fun e w' => e = .returned (V3 (Pl.sub 0 ax) (Pl.sub 0 ay) (Pl.sub 0 az)) ∧ Below w.heap.size w w' := by
  go_enter Try.func157, Try.ntmps157
  go_wp2_with fail
  refine (vsub_any _ _ _ _ _ _ _).mono ?_
  rintro e w1 ⟨rfl, hb⟩
  obtain ⟨hc, hf⟩ := bcell hb
  have hz := hb.size
  simp at hz
  go_wp2
  exact bodyPost_ret (v := V3 (Pl.sub 0 ax) (Pl.sub 0 ay) (Pl.sub 0 az)) (by simp [results, Try.results157, go_sem, hc]) rfl ⟨rfl, below_put3 (below_c2 hb) (by omega) _ _ _⟩

theorem new_any (ax ay az : Int) (w : World) :
    Calls Try.prog 142 #[.int .i64 ax, .int .i64 ay, .int .i64 az] w fun e w' => e = .returned (V3 ax ay az) ∧ Below w.heap.size w w' := by
  go_enter Try.func142, Try.ntmps142
  go_wp2
  exact bodyPost_ret (v := V3 ax ay az) (by simp [results, Try.results142, go_sem]) rfl ⟨rfl, below_n1 _ _⟩

theorem to_any (ax ay az : Int) (w : World) :
    Calls Try.prog 25 #[V3 ax ay az] w fun e w' => e = .returned (V3 ax ay az) ∧ Below w.heap.size w w' := by
  go_enter Try.func25, Try.ntmps25
  go_wp2
  exact bodyPost_ret (v := V3 ax ay az) (by simp [results, Try.results25, go_sem]) rfl ⟨rfl, below_n2 _ _ _⟩

theorem from_any (ax ay az : Int) (w : World) :
    Calls Try.prog 39 #[V3 ax ay az] w fun e w' => e = .returned (V3 ax ay az) ∧ Below w.heap.size w w' := by
  go_enter Try.func39, Try.ntmps39
  go_wp2
  exact bodyPost_ret (v := V3 ax ay az) (by simp [results, Try.results39, go_sem]) rfl ⟨rfl, below_n2 _ _ _⟩

theorem mix_any (ax ay az bx by_ bz t : Int) (w : World) :
    Calls Try.prog 90 #[V3 ax ay az, V3 bx by_ bz, .int .i64 t] w fun e w' => e = .returned (V3 (Pl.lerp ax bx t) (Pl.lerp ay by_ t) (Pl.lerp az bz t)) ∧ Below w.heap.size w w' := by
  have hmf : ∀ (fn : Fn) (first cap : Array Value) (w : World), (Instr.makeFunc fn first cap).run Try.prog w = .ok (.func fn first cap) w := fun _ _ _ _ => rfl
  go_enter Try.func90, Try.ntmps90
  go_wp2_with fail
  refine (each_mix _ _ _ _ _ _ t _ _ (by simp) (by go_simp)).mono ?_
  rintro e w1 ⟨rfl, hb⟩
  obtain ⟨hc, hf⟩ := bcell hb
  have hz := hb.size
  simp at hz
  go_wp2
  exact bodyPost_ret (v := V3 (Pl.lerp ax bx t) (Pl.lerp ay by_ t) (Pl.lerp az bz t)) (by simp [results, Try.results90, go_sem, hc]) rfl ⟨rfl, below_put3 (below_c4 hb) (by omega) _ _ _⟩

end Go.Proofs.Ytfeihojobmagnaa.Ve
