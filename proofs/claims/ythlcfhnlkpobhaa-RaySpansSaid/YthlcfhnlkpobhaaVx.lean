/- The contract of layer 2's outer product. -/
import Derived.Test.YthlcfhnlkpobhaaVf
namespace Go.Proofs.Ythlcfhnlkpobhaa.Ve
open Go.RowKit Go.Proofs.Ythlcfhnlkpobhaa Go.Proofs.Ythlcfhnlkpobhaa.Wa

set_option maxHeartbeats 4000000 in
theorem cross_any (ax ay az bx by_ bz : Int) (w : World) :
    Calls Try.prog 149 #[V3 ax ay az, V3 bx by_ bz] w fun e w' => e = .returned (V3 (Pl.sub (Pl.mul ay bz) (Pl.mul az by_)) (Pl.sub (Pl.mul az bx) (Pl.mul ax bz)) (Pl.sub (Pl.mul ax by_) (Pl.mul ay bx))) ∧ Below w.heap.size w w' := by
  have l2 : w.heap.size < w.heap.size + 1 + 1 := by omega
  have l3 : w.heap.size < w.heap.size + 1 + 1 + 1 := by omega
  have l4 : w.heap.size + 1 < w.heap.size + 1 + 1 + 1 := by omega
  have n2 : w.heap.size ≠ w.heap.size + 1 + 1 := by omega
  have n3 : w.heap.size + 1 + 1 ≠ w.heap.size := by omega
  go_enter Try.func149, Try.ntmps149
  go_wp2_with fail
  go_region_held3 (fun w' => w'.cell? ⟨w.heap.size, 0, none⟩ = some (.int .i64 ax) ∧ w'.cell? ⟨w.heap.size, 1, none⟩ = some (.int .i64 ay) ∧ w'.cell? ⟨w.heap.size, 2, none⟩ = some (.int .i64 az) ∧ w'.cell? ⟨w.heap.size + 1, 0, none⟩ = some (.int .i64 bx) ∧ w'.cell? ⟨w.heap.size + 1, 1, none⟩ = some (.int .i64 by_) ∧ w'.cell? ⟨w.heap.size + 1, 2, none⟩ = some (.int .i64 bz)) (go_keep) (first | (go_at_call 137; refine (new_any _ _ _ _).mono ?_; rintro e w9 ⟨rfl, hbn⟩; (first | (replace hbk := hbk.trans (hbn.mono hbk.size)) | (have hbk := hbn)); obtain ⟨hc, hf⟩ := bcell hbk) | (go_at_call 131; refine (each_mul _ _ _ _ _ _ _).mono ?_; rintro e w9 ⟨rfl, hbn⟩; (first | (replace hbk := hbk.trans (hbn.mono hbk.size)) | (have hbk := hbn)); obtain ⟨hc, hf⟩ := bcell hbk) | (go_at_call 86; refine (vsub_any _ _ _ _ _ _ _).mono ?_; rintro e w9 ⟨rfl, hbn⟩; (first | (replace hbk := hbk.trans (hbn.mono hbk.size)) | (have hbk := hbn)); obtain ⟨hc, hf⟩ := bcell hbk))
  go_wp2
  exact bodyPost_ret (v := V3 (Pl.sub (Pl.mul ay bz) (Pl.mul az by_)) (Pl.sub (Pl.mul az bx) (Pl.mul ax bz)) (Pl.sub (Pl.mul ax by_) (Pl.mul ay bx))) (by simp [results, Try.results149, go_sem, hc]) rfl ⟨rfl, below_put3 (below_d3 hbk) (by omega) _ _ _⟩

end Go.Proofs.Ythlcfhnlkpobhaa.Ve
