/- The contracts of layer 2's functions on points, number by number. -/
import Derived.Test.YtpekhjlgcjhlgaaVc
import Derived.Test.YtpekhjlgcjhlgaaVea
import Derived.Test.YtpekhjlgcjhlgaaVes
import Derived.Test.YtpekhjlgcjhlgaaVem
import Derived.Test.YtpekhjlgcjhlgaaVex
namespace Go.Proofs.Ytpekhjlgcjhlgaa.Ve
open Go.RowKit Go.Proofs.Ytpekhjlgcjhlgaa Go.Proofs.Ytpekhjlgcjhlgaa.Wa

theorem vsub_any (ax ay az bx by_ bz : Int) (w : World) :
    Calls Try.prog 114 #[V3 ax ay az, V3 bx by_ bz] w fun e w' => e = .returned (V3 (Pl.sub ax bx) (Pl.sub ay by_) (Pl.sub az bz)) ∧ Below w.heap.size w w' := by
  go_enter Try.func114, Try.ntmps114
  go_wp2_with fail
  refine (each_sub _ _ _ _ _ _ _).mono ?_
  rintro e w1 ⟨rfl, hb⟩
  obtain ⟨hc, hf⟩ := bcell hb
  have hz := hb.size
  simp at hz
  go_wp2
  exact bodyPost_ret (v := V3 (Pl.sub ax bx) (Pl.sub ay by_) (Pl.sub az bz)) (by simp [results, Try.results114, go_sem, hc]) rfl ⟨rfl, below_put3 (below_c3 hb) (by omega) _ _ _⟩

theorem vneg_any (ax ay az : Int) (w : World) :
    Calls Try.prog 95 #[V3 ax ay az] w fun e w' => e = .returned (V3 (Pl.sub 0 ax) (Pl.sub 0 ay) (Pl.sub 0 az)) ∧ Below w.heap.size w w' := by
  go_enter Try.func95, Try.ntmps95
  go_wp2_with fail
  refine (vsub_any _ _ _ _ _ _ _).mono ?_
  rintro e w1 ⟨rfl, hb⟩
  obtain ⟨hc, hf⟩ := bcell hb
  have hz := hb.size
  simp at hz
  go_wp2
  exact bodyPost_ret (v := V3 (Pl.sub 0 ax) (Pl.sub 0 ay) (Pl.sub 0 az)) (by simp [results, Try.results95, go_sem, hc]) rfl ⟨rfl, below_put3 (below_c2 hb) (by omega) _ _ _⟩

theorem new_any (ax ay az : Int) (w : World) :
    Calls Try.prog 94 #[.int .i64 ax, .int .i64 ay, .int .i64 az] w fun e w' => e = .returned (V3 ax ay az) ∧ Below w.heap.size w w' := by
  go_enter Try.func94, Try.ntmps94
  go_wp2
  exact bodyPost_ret (v := V3 ax ay az) (by simp [results, Try.results94, go_sem]) rfl ⟨rfl, below_n1 _ _⟩

theorem to_any (ax ay az : Int) (w : World) :
    Calls Try.prog 39 #[V3 ax ay az] w fun e w' => e = .returned (V3 ax ay az) ∧ Below w.heap.size w w' := by
  go_enter Try.func39, Try.ntmps39
  go_wp2
  exact bodyPost_ret (v := V3 ax ay az) (by simp [results, Try.results39, go_sem]) rfl ⟨rfl, below_n2 _ _ _⟩

theorem from_any (ax ay az : Int) (w : World) :
    Calls Try.prog 48 #[V3 ax ay az] w fun e w' => e = .returned (V3 ax ay az) ∧ Below w.heap.size w w' := by
  go_enter Try.func48, Try.ntmps48
  go_wp2
  exact bodyPost_ret (v := V3 ax ay az) (by simp [results, Try.results48, go_sem]) rfl ⟨rfl, below_n2 _ _ _⟩

end Go.Proofs.Ytpekhjlgcjhlgaa.Ve
