/- The contracts of layer 5's functions, kind by kind. -/
import Derived.Test.YtcgafhpbcdmigaaVc
import Derived.Test.YtcgafhpbcdmigaaHea
import Derived.Test.YtcgafhpbcdmigaaHeb
import Derived.Test.YtcgafhpbcdmigaaHec
import Derived.Test.YtcgafhpbcdmigaaHed
import Derived.Test.YtcgafhpbcdmigaaHee
namespace Go.Proofs.Ytcgafhpbcdmigaa.He
open Go.RowKit Go.Proofs.Ytcgafhpbcdmigaa Go.Proofs.Ytcgafhpbcdmigaa.Wa Go.Proofs.Ytcgafhpbcdmigaa.Ve

theorem hadd_any (ax ay az bx by_ bz : Int) (w : World) :
    Calls Try.prog 12 #[V3 ax ay az, V3 bx by_ bz] w fun e w' => e = .returned (V3 (Pl.add ax bx) (Pl.add ay by_) (Pl.add az bz)) ∧ Below w.heap.size w w' := by
  go_enter Try.func12, Try.ntmps12
  go_wp2_with fail
  refine (heach_add _ _ _ _ _ _ _).mono ?_
  rintro e w1 ⟨rfl, hb⟩
  obtain ⟨hc, hf⟩ := bcell hb
  have hz := hb.size
  simp at hz
  go_wp2
  exact bodyPost_ret (v := V3 (Pl.add ax bx) (Pl.add ay by_) (Pl.add az bz)) (by simp [results, Try.results12, go_sem, hc]) rfl ⟨rfl, below_put3 (below_c3 hb) (by omega) _ _ _⟩

theorem hsub_any (ax ay az bx by_ bz : Int) (w : World) :
    Calls Try.prog 14 #[V3 ax ay az, V3 bx by_ bz] w fun e w' => e = .returned (V3 (Pl.sub ax bx) (Pl.sub ay by_) (Pl.sub az bz)) ∧ Below w.heap.size w w' := by
  go_enter Try.func14, Try.ntmps14
  go_wp2_with fail
  refine (heach_sub _ _ _ _ _ _ _).mono ?_
  rintro e w1 ⟨rfl, hb⟩
  obtain ⟨hc, hf⟩ := bcell hb
  have hz := hb.size
  simp at hz
  go_wp2
  exact bodyPost_ret (v := V3 (Pl.sub ax bx) (Pl.sub ay by_) (Pl.sub az bz)) (by simp [results, Try.results14, go_sem, hc]) rfl ⟨rfl, below_put3 (below_c3 hb) (by omega) _ _ _⟩

theorem hmul_any (ax ay az bx by_ bz : Int) (w : World) :
    Calls Try.prog 16 #[V3 ax ay az, V3 bx by_ bz] w fun e w' => e = .returned (V3 (Pl.mul ax bx) (Pl.mul ay by_) (Pl.mul az bz)) ∧ Below w.heap.size w w' := by
  go_enter Try.func16, Try.ntmps16
  go_wp2_with fail
  refine (heach_mul _ _ _ _ _ _ _).mono ?_
  rintro e w1 ⟨rfl, hb⟩
  obtain ⟨hc, hf⟩ := bcell hb
  have hz := hb.size
  simp at hz
  go_wp2
  exact bodyPost_ret (v := V3 (Pl.mul ax bx) (Pl.mul ay by_) (Pl.mul az bz)) (by simp [results, Try.results16, go_sem, hc]) rfl ⟨rfl, below_put3 (below_c3 hb) (by omega) _ _ _⟩

theorem gray_any (n : Int) (w : World) :
    Calls Try.prog 22 #[.int .i64 n] w fun e w' => e = .returned (V3 n n n) ∧ Below w.heap.size w w' := by
  go_enter Try.func22, Try.ntmps22
  go_wp2
  exact bodyPost_ret (v := V3 n n n) (by simp [results, Try.results22, go_sem]) rfl ⟨rfl, below_n1 _ _⟩

set_option maxHeartbeats 800000 in
theorem hscale_any (ax ay az s : Int) (w : World) :
    Calls Try.prog 18 #[V3 ax ay az, .int .i64 s] w fun e w' => e = .returned (V3 (Pl.mul ax s) (Pl.mul ay s) (Pl.mul az s)) ∧ Below w.heap.size w w' := by
  have l2 : w.heap.size < w.heap.size + 1 + 1 := by omega
  go_enter Try.func18, Try.ntmps18
  go_wp2_with fail
  go_region_held3 (fun w' => w'.cell? ⟨w.heap.size, 0, none⟩ = some (.int .i64 ax) ∧ w'.cell? ⟨w.heap.size, 1, none⟩ = some (.int .i64 ay) ∧ w'.cell? ⟨w.heap.size, 2, none⟩ = some (.int .i64 az)) (go_keep) (first | (go_at_call 22; refine (gray_any _ _).mono ?_; rintro e w1 ⟨rfl, hbk⟩; obtain ⟨hc, hf⟩ := bcell hbk) | (go_at_call 16; refine (hmul_any _ _ _ _ _ _ _).mono ?_; rintro e w2 ⟨rfl, hb2⟩; have hbx := hbk.trans (hb2.mono hbk.size); obtain ⟨hc, hf⟩ := bcell hbx))
  go_wp2
  exact bodyPost_ret (v := V3 (Pl.mul ax s) (Pl.mul ay s) (Pl.mul az s)) (by simp [results, Try.results18, go_sem, hc]) rfl ⟨rfl, below_put3 (below_d2 hbx) (by omega) _ _ _⟩

/-- the mean, kind by kind -/
def mean (n x : Int) : Int := if n < 1 then 0 else Pl.div x (Pl.ofWhole n)

set_option maxHeartbeats 800000 in
theorem mean_any (ax ay az n : Int) (w : World) :
    Calls Try.prog 24 #[V3 ax ay az, .int .i64 n] w fun e w' => e = .returned (V3 (mean n ax) (mean n ay) (mean n az)) ∧ Below w.heap.size w w' := by
  by_cases h : n < 1
  · have e : ∀ x, mean n x = 0 := fun x => if_pos h
    rw [e, e, e]
    clear e
    go_enter Try.func24, Try.ntmps24
    go_wp2
    exact bodyPost_ret (v := V3 0 0 0) (by simp [results, Try.results24, go_sem]) rfl ⟨rfl, below_n2 _ _ _⟩
  · have e : ∀ x, mean n x = Pl.div x (Pl.ofWhole n) := fun x => if_neg h
    rw [e, e, e]
    clear e
    have l2 : w.heap.size < w.heap.size + 1 + 1 := by omega
    go_enter Try.func24, Try.ntmps24
    go_wp2_with fail
    go_region_held3 (fun w' => w'.cell? ⟨w.heap.size, 0, none⟩ = some (.int .i64 ax) ∧ w'.cell? ⟨w.heap.size, 1, none⟩ = some (.int .i64 ay) ∧ w'.cell? ⟨w.heap.size, 2, none⟩ = some (.int .i64 az)) (go_keep) (first | (go_at_call 53; refine (of_any _ _).mono ?_; rintro e w0 ⟨rfl, rfl⟩) | (go_at_call 22; refine (gray_any _ _).mono ?_; rintro e w1 ⟨rfl, hbk⟩; obtain ⟨hc, hf⟩ := bcell hbk) | (go_at_call 43; refine (heach_div _ _ _ _ _ _ _).mono ?_; rintro e w2 ⟨rfl, hb2⟩; have hbx := hbk.trans (hb2.mono hbk.size); obtain ⟨hc, hf⟩ := bcell hbx))
    go_wp2
    exact bodyPost_ret (v := V3 (Pl.div ax (Pl.ofWhole n)) (Pl.div ay (Pl.ofWhole n)) (Pl.div az (Pl.ofWhole n))) (by simp [results, Try.results24, go_sem, hc]) rfl ⟨rfl, below_put3 (below_d2 hbx) (by omega) _ _ _⟩

theorem hto_any (ax ay az : Int) (w : World) :
    Calls Try.prog 9 #[V3 ax ay az] w fun e w' => e = .returned (V3 ax ay az) ∧ Below w.heap.size w w' := by
  go_enter Try.func9, Try.ntmps9
  go_wp2
  exact bodyPost_ret (v := V3 ax ay az) (by simp [results, Try.results9, go_sem]) rfl ⟨rfl, below_n2 _ _ _⟩

theorem hfrom_any (ax ay az : Int) (w : World) :
    Calls Try.prog 11 #[V3 ax ay az] w fun e w' => e = .returned (V3 ax ay az) ∧ Below w.heap.size w w' := by
  go_enter Try.func11, Try.ntmps11
  go_wp2
  exact bodyPost_ret (v := V3 ax ay az) (by simp [results, Try.results11, go_sem]) rfl ⟨rfl, below_n2 _ _ _⟩

theorem hmix_any (ax ay az bx by_ bz t : Int) (w : World) :
    Calls Try.prog 20 #[V3 ax ay az, V3 bx by_ bz, .int .i64 t] w fun e w' => e = .returned (V3 (Pl.lerp ax bx t) (Pl.lerp ay by_ t) (Pl.lerp az bz t)) ∧ Below w.heap.size w w' := by
  have hmf : ∀ (fn : Fn) (first cap : Array Value) (w : World), (Instr.makeFunc fn first cap).run Try.prog w = .ok (.func fn first cap) w := fun _ _ _ _ => rfl
  go_enter Try.func20, Try.ntmps20
  go_wp2_with fail
  refine (heach_mix _ _ _ _ _ _ t _ _ (by simp) (by go_simp)).mono ?_
  rintro e w1 ⟨rfl, hb⟩
  obtain ⟨hc, hf⟩ := bcell hb
  have hz := hb.size
  simp at hz
  go_wp2
  exact bodyPost_ret (v := V3 (Pl.lerp ax bx t) (Pl.lerp ay by_ t) (Pl.lerp az bz t)) (by simp [results, Try.results20, go_sem, hc]) rfl ⟨rfl, below_put3 (below_c4 hb) (by omega) _ _ _⟩

end Go.Proofs.Ytcgafhpbcdmigaa.He
