/- The contract of the value between two keys. -/
import Derived.Test.YtcgafhpbcdmigaaTk
import Derived.Test.YtcgafhpbcdmigaaWv
import Derived.Test.YtcgafhpbcdmigaaVf
namespace Go.Proofs.Ytcgafhpbcdmigaa.Tk
open Go.RowKit Go.Proofs.Ytcgafhpbcdmigaa Go.Proofs.Ytcgafhpbcdmigaa.Wa Go.Proofs.Ytcgafhpbcdmigaa.Ve

set_option maxHeartbeats 1000000 in
theorem between_ease (way : Int) (a : Option Addr) (n cap : Nat) (ta xa ya za tb xb yb zb t : Int) (hw : way = 2) (w : World) :
    Calls Try.prog 64 #[.agg #[.int .i64 way, .slice a n cap], K4 ta xa ya za, K4 tb xb yb zb, .int .i64 t] w fun e w' =>
      e = .returned (V3 (Pl.lerp xa xb (Pl.ease (Pl.div (Pl.sub t ta) (Pl.sub tb ta)))) (Pl.lerp ya yb (Pl.ease (Pl.div (Pl.sub t ta) (Pl.sub tb ta)))) (Pl.lerp za zb (Pl.ease (Pl.div (Pl.sub t ta) (Pl.sub tb ta))))) ∧ Below w.heap.size w w' := by
  have l1 : w.heap.size + 1 < w.heap.size + 1 + 1 := by omega
  have l2 : w.heap.size + 1 + 1 < w.heap.size + 1 + 1 + 1 := by omega
  have l3 : w.heap.size + 1 < w.heap.size + 1 + 1 + 1 := by omega
  have l4 : w.heap.size < w.heap.size + 1 + 1 + 1 := by omega
  go_enter Try.func64, Try.ntmps64
  go_wp2_with fail
  go_region_held3 (fun w' => w'.cell? ⟨w.heap.size + 1, 0, none⟩ = some (.int .i64 ta) ∧ w'.cell? ⟨w.heap.size + 1 + 1, 0, none⟩ = some (.int .i64 tb)) (first | (go_keep; done) | ((try dsimp only); refine ⟨?_, ?_⟩ <;> (go_simp; done))) (first | (go_at_call 46; refine (sub_any _ _ _).mono ?_; rintro e w9 ⟨rfl, rfl⟩) | (go_at_call 54; refine (div_any _ _ _).mono ?_; rintro e w9 ⟨rfl, rfl⟩))
  go_wp2_with (first | (go_at_call 82; refine (Wv.ease_any _ _).mono ?_; rintro e w9 ⟨rfl, rfl⟩) | (go_at_call 83; refine (mix_any _ _ _ _ _ _ _ _).mono ?_; rintro e w1 ⟨rfl, hb⟩; obtain ⟨hc, hf⟩ := bcell hb; have hz := hb.size; simp at hz))
  exact bodyPost_ret (v := V3 (Pl.lerp xa xb (Pl.ease (Pl.div (Pl.sub t ta) (Pl.sub tb ta)))) (Pl.lerp ya yb (Pl.ease (Pl.div (Pl.sub t ta) (Pl.sub tb ta)))) (Pl.lerp za zb (Pl.ease (Pl.div (Pl.sub t ta) (Pl.sub tb ta))))) (by simp [results, Try.results64, go_sem, hc]) rfl ⟨rfl, below_put3 (below_d4 hb) (by omega) _ _ _⟩

set_option maxHeartbeats 1000000 in
theorem between_line (way : Int) (a : Option Addr) (n cap : Nat) (ta xa ya za tb xb yb zb t : Int) (hw : ¬ way = 2) (w : World) :
    Calls Try.prog 64 #[.agg #[.int .i64 way, .slice a n cap], K4 ta xa ya za, K4 tb xb yb zb, .int .i64 t] w fun e w' =>
      e = .returned (V3 (Pl.lerp xa xb (Pl.div (Pl.sub t ta) (Pl.sub tb ta))) (Pl.lerp ya yb (Pl.div (Pl.sub t ta) (Pl.sub tb ta))) (Pl.lerp za zb (Pl.div (Pl.sub t ta) (Pl.sub tb ta)))) ∧ Below w.heap.size w w' := by
  have l1 : w.heap.size + 1 < w.heap.size + 1 + 1 := by omega
  have l2 : w.heap.size + 1 + 1 < w.heap.size + 1 + 1 + 1 := by omega
  have l3 : w.heap.size + 1 < w.heap.size + 1 + 1 + 1 := by omega
  have l4 : w.heap.size < w.heap.size + 1 + 1 + 1 := by omega
  go_enter Try.func64, Try.ntmps64
  go_wp2_with fail
  go_region_held3 (fun w' => w'.cell? ⟨w.heap.size + 1, 0, none⟩ = some (.int .i64 ta) ∧ w'.cell? ⟨w.heap.size + 1 + 1, 0, none⟩ = some (.int .i64 tb)) (first | (go_keep; done) | ((try dsimp only); refine ⟨?_, ?_⟩ <;> (go_simp; done))) (first | (go_at_call 46; refine (sub_any _ _ _).mono ?_; rintro e w9 ⟨rfl, rfl⟩) | (go_at_call 54; refine (div_any _ _ _).mono ?_; rintro e w9 ⟨rfl, rfl⟩))
  go_wp2_with (first | (go_at_call 82; refine (Wv.ease_any _ _).mono ?_; rintro e w9 ⟨rfl, rfl⟩) | (go_at_call 83; refine (mix_any _ _ _ _ _ _ _ _).mono ?_; rintro e w1 ⟨rfl, hb⟩; obtain ⟨hc, hf⟩ := bcell hb; have hz := hb.size; simp at hz))
  exact bodyPost_ret (v := V3 (Pl.lerp xa xb (Pl.div (Pl.sub t ta) (Pl.sub tb ta))) (Pl.lerp ya yb (Pl.div (Pl.sub t ta) (Pl.sub tb ta))) (Pl.lerp za zb (Pl.div (Pl.sub t ta) (Pl.sub tb ta)))) (by simp [results, Try.results64, go_sem, hc]) rfl ⟨rfl, below_put3 (below_d4 hb) (by omega) _ _ _⟩

theorem between_any (way : Int) (a : Option Addr) (n cap : Nat) (ta xa ya za tb xb yb zb t : Int) (w : World) :
    Calls Try.prog 64 #[.agg #[.int .i64 way, .slice a n cap], K4 ta xa ya za, K4 tb xb yb zb, .int .i64 t] w fun e w' =>
      e = .returned (V3 (Pl.lerp xa xb (part way t ta tb)) (Pl.lerp ya yb (part way t ta tb)) (Pl.lerp za zb (part way t ta tb))) ∧ Below w.heap.size w w' := by
  by_cases hw : way = 2
  · rw [show part way t ta tb = _ from if_pos hw]; exact between_ease way a n cap ta xa ya za tb xb yb zb t hw w
  · rw [show part way t ta tb = _ from if_neg hw]; exact between_line way a n cap ta xa ya za tb xb yb zb t hw w
end Go.Proofs.Ytcgafhpbcdmigaa.Tk
