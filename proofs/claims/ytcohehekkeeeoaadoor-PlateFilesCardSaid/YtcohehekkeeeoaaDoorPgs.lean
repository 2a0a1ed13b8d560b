/- Layer 21 (plate): what bytes are read as, by the document; pictures as the program's, as the document's; the same pictures. -/
import Derived.Test.YtcohehekkeeeoaaDoorPgr
import Derived.Test.YtcohehekkeeeoaaDoorPgt
namespace Go.Proofs.YtcohehekkeeeoaaDoor.Pg
open Go Go.RowKit Go.Proofs.YtcohehekkeeeoaaDoor Go.Proofs.YtcohehekkeeeoaaDoor.Re Go.Proofs.YtcohehekkeeeoaaDoor.Au
set_option linter.unusedVariables false
set_option linter.unusedSimpArgs false

/-- Decode by the document -/
theorem rdecode_any (a : Option Addr) (n c : Nat) (l : List UInt8) (w : World) (hl : BA w a n c l) (hn : n ≤ 140737488351232) : Calls Tryd.prog 24 #[.slice a n c] w fun e' w' => Reads l w e' w' := by
  by_cases h3 : 3 ≤ n
  · by_cases g0 : ((l.getD 0 0).toNat : Int) = 80
    · by_cases g1 : ((l.getD 1 0).toNat : Int) = 54
      · by_cases g2 : ((l.getD 2 0).toNat : Int) = 10
        · refine rdecode_rest a n c l w hl hn h3 g0 g1 g2 ?_
          rw [take3_is (by rw [← hl.1]; exact h3)]
          rw [show l.getD 0 0 = 80 from UInt8.toNat_inj.1 (by have h : (80 : UInt8).toNat = 80 := rfl; omega), show l.getD 1 0 = 54 from UInt8.toNat_inj.1 (by have h : (54 : UInt8).toNat = 54 := rfl; omega), show l.getD 2 0 = 10 from UInt8.toNat_inj.1 (by have h : (10 : UInt8).toNat = 10 := rfl; omega)]
        · exact rdecode_m2 a n c l w hl hn h3 g0 g1 g2
      · exact rdecode_m1 a n c l w hl hn h3 g0 g1
    · exact rdecode_m0 a n c l w hl hn h3 g0
  · exact rdecode_short a n c l w hl hn (by omega)

set_option maxHeartbeats 2000000 in
set_option maxRecDepth 100000 in
theorem from_any (x y : Int) (a : Option Addr) (n c : Nat) (w : World) : Calls Tryd.prog 15 #[.agg #[.int .i64 x, .int .i64 y, .slice a n c]] w fun e' w' => e' = .returned (.agg #[.int .i64 x, .int .i64 y, .slice a n c]) ∧ Below w.heap.size w w' := by
  go_enter Tryd.func15, Tryd.ntmps15
  go_upto_region 1 with fail
  have hr := rows2 w (.cells #[.int .i64 x, .int .i64 y, .slice a n c] 44) (.cells #[.int .i64 0, .int .i64 0, .slice none 0 0] 52)
  have hb := Ve.below_n2 w (.cells #[.int .i64 x, .int .i64 y, .slice a n c] 44) (.cells #[.int .i64 0, .int .i64 0, .slice none 0 0] 52)
  obtain ⟨y0, hy0⟩ : ∃ y0, (w.alloc (.cells #[.int .i64 x, .int .i64 y, .slice a n c] 44)).alloc (.cells #[.int .i64 0, .int .i64 0, .slice none 0 0] 52) = y0 := ⟨_, rfl⟩
  rw [hy0] at hr hb ⊢
  clear hy0
  have c0 := cell_of_row _ _ 0 _ _ _ hr.1
  have c1 := cell_of_row _ _ 1 _ _ _ hr.1
  have c2 := cell_of_row _ _ 2 _ _ _ hr.1
  have s0 := cell_of_row _ _ 0 _ _ _ hr.2
  have s1 := cell_of_row _ _ 1 _ _ _ hr.2
  have s2 := cell_of_row _ _ 2 _ _ _ hr.2
  simp at c0 c1 c2 s0 s1 s2
  have hf : ∀ j, y0.frozen? ⟨w.heap.size + 1, j, none⟩ = false := fun j => by simp [World.frozen?, hr.2]
  have hf0 := hf 0
  have hf1 := hf 1
  have hf2 := hf 2
  have HR := Lib.hid hr.2
  have HB := Lib.hid hb
  have HI := Lib.hid (show (Tryd.prog.info? 52).map (·.size) = some 3 by kernel_rfl)
  clear hf hr hb
  go_wp2
  have hN := setRow_heap y0 (w.heap.size + 1) _ #[.int .i64 x, .int .i64 y, .slice a n c] _ _ HR.out
  have HBN := Lib.hid (below_setRow (g := w.heap.size + 1) HB.out (by omega) #[.int .i64 x, .int .i64 y, .slice a n c])
  rw [part3r HR.out (.int .i64 x) (.int .i64 y) (.slice a n c)]
  exact bodyPost_ret (v := .agg #[.int .i64 x, .int .i64 y, .slice a n c]) (results_row (t := 52) Tryd.results15 rfl hN Tryd.underlying52 rfl HI.out) rfl ⟨rfl, HBN.out⟩

end Go.Proofs.YtcohehekkeeeoaaDoor.Pg
