/- Layer 26 (stamp): the law's awake: two frames. -/
import Derived.Test.YtndpidmbfdpiaaaDoorK32
namespace Go.Proofs.YtndpidmbfdpiaaaDoor.St
open Go Go.RowKit Go.Proofs.YtndpidmbfdpiaaaDoor Go.Proofs.YtndpidmbfdpiaaaDoor.Au Go.Proofs.YtndpidmbfdpiaaaDoor.Re Go.Proofs.YtndpidmbfdpiaaaDoor.Se Go.Proofs.YtndpidmbfdpiaaaDoor.Pn
set_option linter.unusedVariables false
set_option linter.unusedSimpArgs false

def job1 : List UInt8 := 1 :: List.replicate 31 0

set_option maxHeartbeats 4000000 in
set_option maxRecDepth 100000 in
theorem awake_any (w : World) (hT : Tabs w) : Calls Tryd.prog 6 #[] w fun e w' => e = .returned (.bool true) ∧ Below w.heap.size w w' := by
  have hw := works_any job1 (by decide) 2 w hT
  rw [show framesN 2 = 2 from rfl] at hw
  have hat := fun W => at_k 1 1 1 5 W (by omega) (by omega) rfl (by simp)
  go_enter Tryd.func6, Tryd.ntmps6
  go_upto_region 2 with (go_at_call 14; refine hw.mono ?_; rintro e y1 ⟨a, c, vs, rfl, y0, hb0, hW⟩)
  have HL := Lib.hid (hW.low hb0)
  obtain ⟨q, hqa, hqw, hrg, hcn, hro⟩ := hW.at (x := 5) (by omega)
  subst hqa
  obtain ⟨nv, hnv⟩ : ∃ nv, nv = vs.getD 5 undef := ⟨_, rfl⟩
  rw [← hnv] at hcn hro
  have hcn' : y1.cell? ⟨q, 209, none⟩ = some nv := hcn
  have hbx := Ve.below_n1 y1 (.cells #[.int .i64 4, .int .i64 0, .int .i64 1] 3)
  have hS := same_any nv (.slice (some ⟨y1.heap.size, 0, none⟩) 3 3) [4, 0, 1] [4, 0, 1] (y1.alloc (.cells #[.int .i64 4, .int .i64 0, .int .i64 1] 3)) (hro.on hbx) (ro_three 4 0 1 y1)
  rw [show decide (([4, 0, 1] : List Int) = [4, 0, 1]) = true by decide] at hS
  have HBX := Lib.hid hbx
  clear hrg hcn hro hnv hbx hw hb0 hW
  go_wp2_with (first
    | (go_at_call 17; refine hS.mono ?_; rintro e y2 ⟨rfl, hb2⟩)
    | (go_at_call 18; refine (hat y2).mono ?_; rintro e ww ⟨rfl, rfl⟩))
  go_ret
  exact ⟨rfl, (HL.out.trans (HBX.out.mono HL.out.size)).trans (hb2.mono (by have := HL.out.size; have := HBX.out.size; omega))⟩
end Go.Proofs.YtndpidmbfdpiaaaDoor.St
