/- The contracts of layer 2's functions on points, number by number. -/
import Derived.Test.YtplcbdmiccpnnaaVc
import Derived.Test.YtplcbdmiccpnnaaVea
import Derived.Test.YtplcbdmiccpnnaaVes
import Derived.Test.YtplcbdmiccpnnaaVem
import Derived.Test.YtplcbdmiccpnnaaVex
namespace Go.Proofs.Ytplcbdmiccpnnaa.Ve
open Go.RowKit Go.Proofs.Ytplcbdmiccpnnaa Go.Proofs.Ytplcbdmiccpnnaa.Wa

theorem vadd_any (ax ay az bx by_ bz : Int) (w : World) :
    Calls Try.prog 35 #[V3 ax ay az, V3 bx by_ bz] w fun e w' => e = .returned (V3 (Pl.add ax bx) (Pl.add ay by_) (Pl.add az bz)) ∧ Below w.heap.size w w' := by
  go_enter Try.func35, Try.ntmps35
  go_wp2_with fail
  refine (each_add _ _ _ _ _ _ _).mono ?_
  rintro e w1 ⟨rfl, hb⟩
  obtain ⟨hc, hf⟩ := bcell hb
  have hz := hb.size
  simp at hz
  go_wp2
  exact bodyPost_ret (v := V3 (Pl.add ax bx) (Pl.add ay by_) (Pl.add az bz)) (by simp [results, Try.results35, go_sem, hc]) rfl ⟨rfl, below_put3 (below_c3 hb) (by omega) _ _ _⟩

theorem vsub_any (ax ay az bx by_ bz : Int) (w : World) :
    Calls Try.prog 58 #[V3 ax ay az, V3 bx by_ bz] w fun e w' => e = .returned (V3 (Pl.sub ax bx) (Pl.sub ay by_) (Pl.sub az bz)) ∧ Below w.heap.size w w' := by
  go_enter Try.func58, Try.ntmps58
  go_wp2_with fail
  refine (each_sub _ _ _ _ _ _ _).mono ?_
  rintro e w1 ⟨rfl, hb⟩
  obtain ⟨hc, hf⟩ := bcell hb
  have hz := hb.size
  simp at hz
  go_wp2
  exact bodyPost_ret (v := V3 (Pl.sub ax bx) (Pl.sub ay by_) (Pl.sub az bz)) (by simp [results, Try.results58, go_sem, hc]) rfl ⟨rfl, below_put3 (below_c3 hb) (by omega) _ _ _⟩

theorem vneg_any (ax ay az : Int) (w : World) :
    Calls Try.prog 42 #[V3 ax ay az] w fun e w' => e = .returned (V3 (Pl.sub 0 ax) (Pl.sub 0 ay) (Pl.sub 0 az)) ∧ Below w.heap.size w w' := by
  go_enter Try.func42, Try.ntmps42
  go_wp2_with fail
  refine (vsub_any _ _ _ _ _ _ _).mono ?_
  rintro e w1 ⟨rfl, hb⟩
  obtain ⟨hc, hf⟩ := bcell hb
  have hz := hb.size
  simp at hz
  go_wp2
  exact bodyPost_ret (v := V3 (Pl.sub 0 ax) (Pl.sub 0 ay) (Pl.sub 0 az)) (by simp [results, Try.results42, go_sem, hc]) rfl ⟨rfl, below_put3 (below_c2 hb) (by omega) _ _ _⟩

theorem new_any (ax ay az : Int) (w : World) :
    Calls Try.prog 57 #[.int .i64 ax, .int .i64 ay, .int .i64 az] w fun e w' => e = .returned (V3 ax ay az) ∧ Below w.heap.size w w' := by
  go_enter Try.func57, Try.ntmps57
  go_wp2
  exact bodyPost_ret (v := V3 ax ay az) (by simp [results, Try.results57, go_sem]) rfl ⟨rfl, below_n1 _ _⟩

theorem to_any (ax ay az : Int) (w : World) :
    Calls Try.prog 18 #[V3 ax ay az] w fun e w' => e = .returned (V3 ax ay az) ∧ Below w.heap.size w w' := by
  go_enter Try.func18, Try.ntmps18
  go_wp2
  exact bodyPost_ret (v := V3 ax ay az) (by simp [results, Try.results18, go_sem]) rfl ⟨rfl, below_n2 _ _ _⟩

theorem from_any (ax ay az : Int) (w : World) :
    Calls Try.prog 21 #[V3 ax ay az] w fun e w' => e = .returned (V3 ax ay az) ∧ Below w.heap.size w w' := by
  go_enter Try.func21, Try.ntmps21
  go_wp2
  exact bodyPost_ret (v := V3 ax ay az) (by simp [results, Try.results21, go_sem]) rfl ⟨rfl, below_n2 _ _ _⟩

theorem mix_any (ax ay az bx by_ bz t : Int) (w : World) :
    Calls Try.prog 110 #[V3 ax ay az, V3 bx by_ bz, .int .i64 t] w fun e w' => e = .returned (V3 (Pl.lerp ax bx t) (Pl.lerp ay by_ t) (Pl.lerp az bz t)) ∧ Below w.heap.size w w' := by
  have hmf : ∀ (fn : Fn) (first cap : Array Value) (w : World), (Instr.makeFunc fn first cap).run Try.prog w = .ok (.func fn first cap) w := fun _ _ _ _ => rfl
  go_enter Try.func110, Try.ntmps110
  go_wp2_with fail
  refine (each_mix _ _ _ _ _ _ t _ _ (by simp) (by go_simp)).mono ?_
  rintro e w1 ⟨rfl, hb⟩
  obtain ⟨hc, hf⟩ := bcell hb
  have hz := hb.size
  simp at hz
  go_wp2
  exact bodyPost_ret (v := V3 (Pl.lerp ax bx t) (Pl.lerp ay by_ t) (Pl.lerp az bz t)) (by simp [results, Try.results110, go_sem, hc]) rfl ⟨rfl, below_put3 (below_c4 hb) (by omega) _ _ _⟩

set_option maxHeartbeats 800000 in
theorem scale_any (ax ay az s : Int) (w : World) :
    Calls Try.prog 34 #[V3 ax ay az, .int .i64 s] w fun e w' => e = .returned (V3 (Pl.mul ax s) (Pl.mul ay s) (Pl.mul az s)) ∧ Below w.heap.size w w' := by
  have l2 : w.heap.size < w.heap.size + 1 + 1 := by omega
  go_enter Try.func34, Try.ntmps34
  go_wp2_with fail
  go_region_held3 (fun w' => w'.cell? ⟨w.heap.size, 0, none⟩ = some (.int .i64 ax) ∧ w'.cell? ⟨w.heap.size, 1, none⟩ = some (.int .i64 ay) ∧ w'.cell? ⟨w.heap.size, 2, none⟩ = some (.int .i64 az)) (go_keep) (first | (go_at_call 57; refine (new_any _ _ _ _).mono ?_; rintro e w1 ⟨rfl, hbk⟩; obtain ⟨hc, hf⟩ := bcell hbk) | (go_at_call 43; refine (each_mul _ _ _ _ _ _ _).mono ?_; rintro e w2 ⟨rfl, hb2⟩; have hbx := hbk.trans (hb2.mono hbk.size); obtain ⟨hc, hf⟩ := bcell hbx))
  go_wp2
  exact bodyPost_ret (v := V3 (Pl.mul ax s) (Pl.mul ay s) (Pl.mul az s)) (by simp [results, Try.results34, go_sem, hc]) rfl ⟨rfl, below_put3 (below_d2 hbx) (by omega) _ _ _⟩

end Go.Proofs.Ytplcbdmiccpnnaa.Ve
