/- The contracts of layer 5's functions, kind by kind. -/
import Derived.Test.YtpinpkhalccjhaaDoorF11
import Derived.Test.YtpinpkhalccjhaaDoorF13
import Derived.Test.YtpinpkhalccjhaaDoorF14
namespace Go.Proofs.YtpinpkhalccjhaaDoor.He
open Go.RowKit Go.Proofs.YtpinpkhalccjhaaDoor Go.Proofs.YtpinpkhalccjhaaDoor.Wa Go.Proofs.YtpinpkhalccjhaaDoor.Ve

theorem hadd_any (ax ay az bx by_ bz : Int) (w : World) :
    Calls Tryd.prog 119 #[V3 ax ay az, V3 bx by_ bz] w fun e w' => e = .returned (V3 (Pl.add ax bx) (Pl.add ay by_) (Pl.add az bz)) ∧ Below w.heap.size w w' := by
  go_enter Tryd.func119, Tryd.ntmps119
  go_wp2_with fail
  refine (heach_add _ _ _ _ _ _ _).mono ?_
  rintro e w1 ⟨rfl, hb⟩
  obtain ⟨hc, hf⟩ := bcell hb
  have hz := hb.size
  simp at hz
  go_wp2
  exact bodyPost_ret (v := V3 (Pl.add ax bx) (Pl.add ay by_) (Pl.add az bz)) (by simp [results, Tryd.results119, go_sem, hc]) rfl ⟨rfl, below_put3 (below_c3 hb) (by omega) _ _ _⟩

theorem hsub_any (ax ay az bx by_ bz : Int) (w : World) :
    Calls Tryd.prog 140 #[V3 ax ay az, V3 bx by_ bz] w fun e w' => e = .returned (V3 (Pl.sub ax bx) (Pl.sub ay by_) (Pl.sub az bz)) ∧ Below w.heap.size w w' := by
  go_enter Tryd.func140, Tryd.ntmps140
  go_wp2_with fail
  refine (heach_sub _ _ _ _ _ _ _).mono ?_
  rintro e w1 ⟨rfl, hb⟩
  obtain ⟨hc, hf⟩ := bcell hb
  have hz := hb.size
  simp at hz
  go_wp2
  exact bodyPost_ret (v := V3 (Pl.sub ax bx) (Pl.sub ay by_) (Pl.sub az bz)) (by simp [results, Tryd.results140, go_sem, hc]) rfl ⟨rfl, below_put3 (below_c3 hb) (by omega) _ _ _⟩

theorem hmul_any (ax ay az bx by_ bz : Int) (w : World) :
    Calls Tryd.prog 135 #[V3 ax ay az, V3 bx by_ bz] w fun e w' => e = .returned (V3 (Pl.mul ax bx) (Pl.mul ay by_) (Pl.mul az bz)) ∧ Below w.heap.size w w' := by
  go_enter Tryd.func135, Tryd.ntmps135
  go_wp2_with fail
  refine (heach_mul _ _ _ _ _ _ _).mono ?_
  rintro e w1 ⟨rfl, hb⟩
  obtain ⟨hc, hf⟩ := bcell hb
  have hz := hb.size
  simp at hz
  go_wp2
  exact bodyPost_ret (v := V3 (Pl.mul ax bx) (Pl.mul ay by_) (Pl.mul az bz)) (by simp [results, Tryd.results135, go_sem, hc]) rfl ⟨rfl, below_put3 (below_c3 hb) (by omega) _ _ _⟩

theorem gray_any (n : Int) (w : World) :
    Calls Tryd.prog 49 #[.int .i64 n] w fun e w' => e = .returned (V3 n n n) ∧ Below w.heap.size w w' := by
  go_enter Tryd.func49, Tryd.ntmps49
  go_wp2
  exact bodyPost_ret (v := V3 n n n) (by simp [results, Tryd.results49, go_sem]) rfl ⟨rfl, below_n1 _ _⟩

set_option maxHeartbeats 800000 in
theorem hscale_any (ax ay az s : Int) (w : World) :
    Calls Tryd.prog 120 #[V3 ax ay az, .int .i64 s] w fun e w' => e = .returned (V3 (Pl.mul ax s) (Pl.mul ay s) (Pl.mul az s)) ∧ Below w.heap.size w w' := by
  have l2 : w.heap.size < w.heap.size + 1 + 1 := by omega
  go_enter Tryd.func120, Tryd.ntmps120
  go_wp2_with fail
  go_region_held3 (fun w' => w'.cell? ⟨w.heap.size, 0, none⟩ = some (.int .i64 ax) ∧ w'.cell? ⟨w.heap.size, 1, none⟩ = some (.int .i64 ay) ∧ w'.cell? ⟨w.heap.size, 2, none⟩ = some (.int .i64 az)) (go_keep) (first | (go_at_call 49; refine (gray_any _ _).mono ?_; rintro e w1 ⟨rfl, hbk⟩; obtain ⟨hc, hf⟩ := bcell hbk) | (go_at_call 135; refine (hmul_any _ _ _ _ _ _ _).mono ?_; rintro e w2 ⟨rfl, hb2⟩; have hbx := hbk.trans (hb2.mono hbk.size); obtain ⟨hc, hf⟩ := bcell hbx))
  go_wp2
  exact bodyPost_ret (v := V3 (Pl.mul ax s) (Pl.mul ay s) (Pl.mul az s)) (by simp [results, Tryd.results120, go_sem, hc]) rfl ⟨rfl, below_put3 (below_d2 hbx) (by omega) _ _ _⟩

/-- the mean, kind by kind -/
def mean (n x : Int) : Int := if n < 1 then 0 else Pl.div x (Pl.ofWhole n)

theorem hto_any (ax ay az : Int) (w : World) :
    Calls Tryd.prog 15 #[V3 ax ay az] w fun e w' => e = .returned (V3 ax ay az) ∧ Below w.heap.size w w' := by
  go_enter Tryd.func15, Tryd.ntmps15
  go_wp2
  exact bodyPost_ret (v := V3 ax ay az) (by simp [results, Tryd.results15, go_sem]) rfl ⟨rfl, below_n2 _ _ _⟩

theorem hfrom_any (ax ay az : Int) (w : World) :
    Calls Tryd.prog 17 #[V3 ax ay az] w fun e w' => e = .returned (V3 ax ay az) ∧ Below w.heap.size w w' := by
  go_enter Tryd.func17, Tryd.ntmps17
  go_wp2
  exact bodyPost_ret (v := V3 ax ay az) (by simp [results, Tryd.results17, go_sem]) rfl ⟨rfl, below_n2 _ _ _⟩

end Go.Proofs.YtpinpkhalccjhaaDoor.He

/- The contracts of the document's own functions on lights, kind by kind. -/
namespace Go.Proofs.YtpinpkhalccjhaaDoor.He
open Go.RowKit Go.Proofs.YtpinpkhalccjhaaDoor Go.Proofs.YtpinpkhalccjhaaDoor.Wa Go.Proofs.YtpinpkhalccjhaaDoor.Ve

end Go.Proofs.YtpinpkhalccjhaaDoor.He

/- The contracts of the document's own inner product and length. -/
namespace Go.Proofs.YtpinpkhalccjhaaDoor.Ve
open Go.RowKit Go.Proofs.YtpinpkhalccjhaaDoor Go.Proofs.YtpinpkhalccjhaaDoor.Wa

end Go.Proofs.YtpinpkhalccjhaaDoor.Ve
