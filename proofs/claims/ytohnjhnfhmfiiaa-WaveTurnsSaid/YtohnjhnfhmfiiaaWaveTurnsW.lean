/- The walk of WaveTurns: the law returns true, whatever axis, turn and point come in; nothing that was there is written. -/
import Derived.Test.YtohnjhnfhmfiiaaWtd
import Derived.Test.YtohnjhnfhmfiiaaVma
import Derived.Test.YtohnjhnfhmfiiaaVmq
namespace Go.Proofs.Ytohnjhnfhmfiiaa.waveTurnsW
open Go.RowKit Go.Proofs.Ytohnjhnfhmfiiaa Go.Proofs.Ytohnjhnfhmfiiaa.Wa Go.Proofs.Ytohnjhnfhmfiiaa.Ve

theorem awake_b (w : World) : Calls Try.prog 37 #[] w fun e w' => e = .returned (.bool true) ∧ Below w.heap.size w w' :=
  (Wv.awake_any w).mono fun _ _ ⟨a, b⟩ => ⟨a, b ▸ Below.refl _ _⟩

set_option maxHeartbeats 8000000 in
set_option maxRecDepth 100000 in
theorem walk (a t x y z : Int) (_w0 : (Lit.int .i64 a).wf = true) (_w1 : (Lit.int .i64 t).wf = true) (w : World) :
    Calls Try.prog 7 #[.int .i64 a, .int .i64 t, V3 x y z] w fun e w' => e = .returned (.bool true) ∧ Below w.heap.size w w' := by
  have q1 := eq_m12 (turnN a t)
  have q2 := eq_m12 (turnsN x y z)
  go_enter Try.func7, Try.ntmps7
  go_wp2_with fail
  obtain ⟨wq, hwq⟩ : ∃ wq, wq = (w.alloc (.cells #[.int .i64 x, .int .i64 y, .int .i64 z] 23)) := ⟨_, rfl⟩
  rw [← hwq]
  have ha : Bk w.heap.size 3 (f3 x y z) wq := by subst hwq; exact new3 _ _ rfl x y z _
  have hbk : Below w.heap.size w wq := by subst hwq; exact below_n1 w _
  clear hwq
  go_region_held3 (fun w' => w'.cell? ⟨w.heap.size, 0, none⟩ = some (.int .i64 x) ∧ w'.cell? ⟨w.heap.size, 1, none⟩ = some (.int .i64 y) ∧ w'.cell? ⟨w.heap.size, 2, none⟩ = some (.int .i64 z)) (first | (with_reducible exact ha.v3) | (with_reducible exact (ha.on (Below.refl _ _).drew).v3)) (first | (go_at_call 37; refine (awake_b _).mono ?_; rintro e w9 ⟨rfl, hbn⟩; (first | (with_reducible have hbm := hbn; replace hbk := hbk.trans (hbm.mono hbk.size); replace ha := ha.on hbm) | (with_reducible have hbm := draw_below hbn; replace hbk := hbk.trans (hbm.mono hbk.size); replace ha := ha.on hbm))) | (go_at_call 44; refine (turn_any _ _ _).mono ?_; rintro e w9 ⟨rfl, hbn⟩; (first | (with_reducible have hbm := hbn; replace hbk := hbk.trans (hbm.mono hbk.size); replace ha := ha.on hbm) | (with_reducible have hbm := draw_below hbn; replace hbk := hbk.trans (hbm.mono hbk.size); replace ha := ha.on hbm))) | (go_at_call 45; refine (rturn_any _ _ _).mono ?_; rintro e w9 ⟨rfl, hbn⟩; (first | (with_reducible have hbm := hbn; replace hbk := hbk.trans (hbm.mono hbk.size); replace ha := ha.on hbm) | (with_reducible have hbm := draw_below hbn; replace hbk := hbk.trans (hbm.mono hbk.size); replace ha := ha.on hbm))) | (go_at_call 22; refine (frommat_any _ _).mono ?_; rintro e w9 ⟨rfl, hbn⟩; (first | (with_reducible have hbm := hbn; replace hbk := hbk.trans (hbm.mono hbk.size); replace ha := ha.on hbm) | (with_reducible have hbm := draw_below hbn; replace hbk := hbk.trans (hbm.mono hbk.size); replace ha := ha.on hbm))) | (go_at_call 18; refine (to_any _ _ _ _).mono ?_; rintro e w9 ⟨rfl, hbn⟩; (first | (with_reducible have hbm := hbn; replace hbk := hbk.trans (hbm.mono hbk.size); replace ha := ha.on hbm) | (with_reducible have hbm := draw_below hbn; replace hbk := hbk.trans (hbm.mono hbk.size); replace ha := ha.on hbm))) | (go_at_call 46; refine (turns_any _ _ _ _).mono ?_; rintro e w9 ⟨rfl, hbn⟩; (first | (with_reducible have hbm := hbn; replace hbk := hbk.trans (hbm.mono hbk.size); replace ha := ha.on hbm) | (with_reducible have hbm := draw_below hbn; replace hbk := hbk.trans (hbm.mono hbk.size); replace ha := ha.on hbm))) | (go_at_call 47; refine (rturns_any _ _ _ _).mono ?_; rintro e w9 ⟨rfl, hbn⟩; (first | (with_reducible have hbm := hbn; replace hbk := hbk.trans (hbm.mono hbk.size); replace ha := ha.on hbm) | (with_reducible have hbm := draw_below hbn; replace hbk := hbk.trans (hbm.mono hbk.size); replace ha := ha.on hbm))))
  go_wp2
  go_ret
  exact ⟨rfl, hbk⟩

end Go.Proofs.Ytohnjhnfhmfiiaa.waveTurnsW
