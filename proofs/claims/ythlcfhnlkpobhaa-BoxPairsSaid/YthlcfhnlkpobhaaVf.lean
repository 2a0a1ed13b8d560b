/- The contracts of layer 2's functions on points, number by number. -/
import Derived.Test.YthlcfhnlkpobhaaVc
import Derived.Test.YthlcfhnlkpobhaaVea
import Derived.Test.YthlcfhnlkpobhaaVes
import Derived.Test.YthlcfhnlkpobhaaVem
import Derived.Test.YthlcfhnlkpobhaaVex
namespace Go.Proofs.Ythlcfhnlkpobhaa.Ve
open Go.RowKit Go.Proofs.Ythlcfhnlkpobhaa Go.Proofs.Ythlcfhnlkpobhaa.Wa

theorem vadd_any (ax ay az bx by_ bz : Int) (w : World) :
    Calls Try.prog 80 #[V3 ax ay az, V3 bx by_ bz] w fun e w' => e = .returned (V3 (Pl.add ax bx) (Pl.add ay by_) (Pl.add az bz)) ∧ Below w.heap.size w w' := by
  go_enter Try.func80, Try.ntmps80
  go_wp2_with fail
  refine (each_add _ _ _ _ _ _ _).mono ?_
  rintro e w1 ⟨rfl, hb⟩
  obtain ⟨hc, hf⟩ := bcell hb
  have hz := hb.size
  simp at hz
  go_wp2
  exact bodyPost_ret (v := V3 (Pl.add ax bx) (Pl.add ay by_) (Pl.add az bz)) (by simp [results, Try.results80, go_sem, hc]) rfl ⟨rfl, below_put3 (below_c3 hb) (by omega) _ _ _⟩

theorem vsub_any (ax ay az bx by_ bz : Int) (w : World) :
    Calls Try.prog 86 #[V3 ax ay az, V3 bx by_ bz] w fun e w' => e = .returned (V3 (Pl.sub ax bx) (Pl.sub ay by_) (Pl.sub az bz)) ∧ Below w.heap.size w w' := by
  go_enter Try.func86, Try.ntmps86
  go_wp2_with fail
  refine (each_sub _ _ _ _ _ _ _).mono ?_
  rintro e w1 ⟨rfl, hb⟩
  obtain ⟨hc, hf⟩ := bcell hb
  have hz := hb.size
  simp at hz
  go_wp2
  exact bodyPost_ret (v := V3 (Pl.sub ax bx) (Pl.sub ay by_) (Pl.sub az bz)) (by simp [results, Try.results86, go_sem, hc]) rfl ⟨rfl, below_put3 (below_c3 hb) (by omega) _ _ _⟩

theorem vneg_any (ax ay az : Int) (w : World) :
    Calls Try.prog 160 #[V3 ax ay az] w fun e w' => e = .returned (V3 (Pl.sub 0 ax) (Pl.sub 0 ay) (Pl.sub 0 az)) ∧ Below w.heap.size w w' := by
  go_enter Try.func160, Try.ntmps160
  go_wp2_with fail
  refine (vsub_any _ _ _ _ _ _ _).mono ?_
  rintro e w1 ⟨rfl, hb⟩
  obtain ⟨hc, hf⟩ := bcell hb
  have hz := hb.size
  simp at hz
  go_wp2
  exact bodyPost_ret (v := V3 (Pl.sub 0 ax) (Pl.sub 0 ay) (Pl.sub 0 az)) (by simp [results, Try.results160, go_sem, hc]) rfl ⟨rfl, below_put3 (below_c2 hb) (by omega) _ _ _⟩

theorem new_any (ax ay az : Int) (w : World) :
    Calls Try.prog 137 #[.int .i64 ax, .int .i64 ay, .int .i64 az] w fun e w' => e = .returned (V3 ax ay az) ∧ Below w.heap.size w w' := by
  go_enter Try.func137, Try.ntmps137
  go_wp2
  exact bodyPost_ret (v := V3 ax ay az) (by simp [results, Try.results137, go_sem]) rfl ⟨rfl, below_n1 _ _⟩

theorem to_any (ax ay az : Int) (w : World) :
    Calls Try.prog 36 #[V3 ax ay az] w fun e w' => e = .returned (V3 ax ay az) ∧ Below w.heap.size w w' := by
  go_enter Try.func36, Try.ntmps36
  go_wp2
  exact bodyPost_ret (v := V3 ax ay az) (by simp [results, Try.results36, go_sem]) rfl ⟨rfl, below_n2 _ _ _⟩

theorem from_any (ax ay az : Int) (w : World) :
    Calls Try.prog 30 #[V3 ax ay az] w fun e w' => e = .returned (V3 ax ay az) ∧ Below w.heap.size w w' := by
  go_enter Try.func30, Try.ntmps30
  go_wp2
  exact bodyPost_ret (v := V3 ax ay az) (by simp [results, Try.results30, go_sem]) rfl ⟨rfl, below_n2 _ _ _⟩

theorem mix_any (ax ay az bx by_ bz t : Int) (w : World) :
    Calls Try.prog 65 #[V3 ax ay az, V3 bx by_ bz, .int .i64 t] w fun e w' => e = .returned (V3 (Pl.lerp ax bx t) (Pl.lerp ay by_ t) (Pl.lerp az bz t)) ∧ Below w.heap.size w w' := by
  have hmf : ∀ (fn : Fn) (first cap : Array Value) (w : World), (Instr.makeFunc fn first cap).run Try.prog w = .ok (.func fn first cap) w := fun _ _ _ _ => rfl
  go_enter Try.func65, Try.ntmps65
  go_wp2_with fail
  refine (each_mix _ _ _ _ _ _ t _ _ (by simp) (by go_simp)).mono ?_
  rintro e w1 ⟨rfl, hb⟩
  obtain ⟨hc, hf⟩ := bcell hb
  have hz := hb.size
  simp at hz
  go_wp2
  exact bodyPost_ret (v := V3 (Pl.lerp ax bx t) (Pl.lerp ay by_ t) (Pl.lerp az bz t)) (by simp [results, Try.results65, go_sem, hc]) rfl ⟨rfl, below_put3 (below_c4 hb) (by omega) _ _ _⟩

set_option maxHeartbeats 800000 in
theorem scale_any (ax ay az s : Int) (w : World) :
    Calls Try.prog 81 #[V3 ax ay az, .int .i64 s] w fun e w' => e = .returned (V3 (Pl.mul ax s) (Pl.mul ay s) (Pl.mul az s)) ∧ Below w.heap.size w w' := by
  have l2 : w.heap.size < w.heap.size + 1 + 1 := by omega
  go_enter Try.func81, Try.ntmps81
  go_wp2_with fail
  go_region_held3 (fun w' => w'.cell? ⟨w.heap.size, 0, none⟩ = some (.int .i64 ax) ∧ w'.cell? ⟨w.heap.size, 1, none⟩ = some (.int .i64 ay) ∧ w'.cell? ⟨w.heap.size, 2, none⟩ = some (.int .i64 az)) (go_keep) (first | (go_at_call 137; refine (new_any _ _ _ _).mono ?_; rintro e w1 ⟨rfl, hbk⟩; obtain ⟨hc, hf⟩ := bcell hbk) | (go_at_call 131; refine (each_mul _ _ _ _ _ _ _).mono ?_; rintro e w2 ⟨rfl, hb2⟩; have hbx := hbk.trans (hb2.mono hbk.size); obtain ⟨hc, hf⟩ := bcell hbx))
  go_wp2
  exact bodyPost_ret (v := V3 (Pl.mul ax s) (Pl.mul ay s) (Pl.mul az s)) (by simp [results, Try.results81, go_sem, hc]) rfl ⟨rfl, below_put3 (below_d2 hbx) (by omega) _ _ _⟩

end Go.Proofs.Ythlcfhnlkpobhaa.Ve
