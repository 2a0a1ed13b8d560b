/- Layer 21 (plate): what bytes are read as, by the document: no file's beginning. -/
import Derived.Test.YtcohehekkeeeoaaDoorPgp
namespace Go.Proofs.YtcohehekkeeeoaaDoor.Pg
open Go Go.RowKit Go.Proofs.YtcohehekkeeeoaaDoor Go.Proofs.YtcohehekkeeeoaaDoor.Re Go.Proofs.YtcohehekkeeeoaaDoor.Au
set_option linter.unusedVariables false
set_option linter.unusedSimpArgs false

def Reads (l : List UInt8) (w : World) (e' : Ending) (w' : World) : Prop := ∃ (e wn hn K : Nat) (D : List UInt8) (v : Value), Dec l e wn hn D ∧ e' = .returned (.tuple #[.agg #[.int .i64 wn, .int .i64 hn, v], .int .i64 e]) ∧ K = wn * hn ∧ w'.ownsRow w.heap.size 69 3 v K (vals D) ∧ Below w.heap.size w w'

theorem take3_is {l : List UInt8} (h : 3 ≤ l.length) : l.take 3 = [l.getD 0 0, l.getD 1 0, l.getD 2 0] := by
  match l, h with
  | a :: b :: c :: r, _ => rfl


set_option maxHeartbeats 1000000 in
set_option maxRecDepth 100000 in
theorem rdecode_short (a : Option Addr) (n c : Nat) (l : List UInt8) (w : World) (hl : BA w a n c l) (hn : n ≤ 140737488351232) (h3 : n < 3) : Calls Tryd.prog 24 #[.slice a n c] w fun e' w' => Reads l w e' w' := by
  have HL := Lib.hid hl
  clear hl
  go_enter Tryd.func24, Tryd.ntmps24
  go_upto_region 1 with fail
  have hr0 := heap_alloc_last w (.cells #[.int .i64 0, .int .i64 0, .slice none 0 0] 52)
  have hb0 := Ve.below_n1 w (.cells #[.int .i64 0, .int .i64 0, .slice none 0 0] 52)
  obtain ⟨y0, hy0⟩ : ∃ y0, w.alloc (.cells #[.int .i64 0, .int .i64 0, .slice none 0 0] 52) = y0 := ⟨_, rfl⟩
  obtain ⟨r, hr⟩ : ∃ r, r = w.heap.size := ⟨_, rfl⟩
  rw [hy0] at hr0 hb0 ⊢
  rw [← hr] at hr0 ⊢
  have HRW := Lib.hid hr
  clear hy0 hr
  have HB0 := Lib.hid hb0
  have HL0 := Lib.hid (HL.out.on hb0)
  have hlt0 := lt_heap hr0
  have HR0 := Lib.hid hr0
  have HI := Lib.hid (show (Tryd.prog.info? 52).map (·.size) = some 3 by kernel_rfl)
  clear hb0 hr0
  have s0 := cell_of_row _ _ 0 _ _ _ HR0.out
  have s1 := cell_of_row _ _ 1 _ _ _ HR0.out
  have s2 := cell_of_row _ _ 2 _ _ _ HR0.out
  simp at s0 s1 s2
  have hf : ∀ j, y0.frozen? ⟨r, j, none⟩ = false := fun j => by simp [World.frozen?, HR0.out]
  have hf0 := hf 0
  have hf1 := hf 1
  have hf2 := hf 2
  clear hf
  go_wp2
  have hN := setRow_heap y0 r _ #[.int .i64 0, .int .i64 0, .slice none 0 0] _ _ HR0.out
  have HBN := Lib.hid (below_setRow (g := r) HB0.out (by have := HRW.out; omega) #[.int .i64 0, .int .i64 0, .slice none 0 0])
  rw [part3r HR0.out (.int .i64 0) (.int .i64 0) (.slice none 0 0)]
  exact bodyPost_ret (v := .tuple #[.agg #[.int .i64 0, .int .i64 0, .slice none 0 0], .int .i64 20]) (results_row2 (t := 52) Tryd.results24 rfl rfl hN Tryd.underlying52 rfl HI.out) rfl ⟨(20 : Nat), (0 : Nat), (0 : Nat), (0 : Nat), ([] : List UInt8), Value.slice none 0 0, Dec.magic (fun hm => (by have := congrArg List.length hm; rw [List.length_take, ← HL.out.1] at this; simp at this; omega)), rfl, rfl, World.ownsRow_nil _ _ _ _, HBN.out⟩

set_option maxHeartbeats 1000000 in
set_option maxRecDepth 100000 in
theorem rdecode_m0 (a : Option Addr) (n c : Nat) (l : List UInt8) (w : World) (hl : BA w a n c l) (hn : n ≤ 140737488351232) (h3 : 3 ≤ n) (g0 : ¬ ((l.getD 0 0).toNat : Int) = 80) : Calls Tryd.prog 24 #[.slice a n c] w fun e' w' => Reads l w e' w' := by
  have HL := Lib.hid hl
  clear hl
  have G0 := Lib.hid g0
  clear g0
  go_enter Tryd.func24, Tryd.ntmps24
  go_upto_region 1 with fail
  have hr0 := heap_alloc_last w (.cells #[.int .i64 0, .int .i64 0, .slice none 0 0] 52)
  have hb0 := Ve.below_n1 w (.cells #[.int .i64 0, .int .i64 0, .slice none 0 0] 52)
  obtain ⟨y0, hy0⟩ : ∃ y0, w.alloc (.cells #[.int .i64 0, .int .i64 0, .slice none 0 0] 52) = y0 := ⟨_, rfl⟩
  obtain ⟨r, hr⟩ : ∃ r, r = w.heap.size := ⟨_, rfl⟩
  rw [hy0] at hr0 hb0 ⊢
  rw [← hr] at hr0 ⊢
  have HRW := Lib.hid hr
  clear hy0 hr
  have HB0 := Lib.hid hb0
  have HL0 := Lib.hid (HL.out.on hb0)
  have hlt0 := lt_heap hr0
  have HR0 := Lib.hid hr0
  have HI := Lib.hid (show (Tryd.prog.info? 52).map (·.size) = some 3 by kernel_rfl)
  clear hb0 hr0
  obtain ⟨ad, had, e0⟩ := HL0.out.byte (k := 0) (by omega)
  subst had
  obtain ⟨b0, hb0⟩ : ∃ b : Int, b = ((l.getD 0 0).toNat : Int) := ⟨_, rfl⟩
  rw [← hb0] at e0
  have HX0 := Lib.hid hb0
  clear hb0
  have e0_ := e0
  simp [Addr.add] at e0_
  have k0 : ¬ b0 = 80 := by rw [HX0.out]; exact G0.out
  have kk : (b0 != 80) = true := by simp [k0]
  have s0 := cell_of_row _ _ 0 _ _ _ HR0.out
  have s1 := cell_of_row _ _ 1 _ _ _ HR0.out
  have s2 := cell_of_row _ _ 2 _ _ _ HR0.out
  simp at s0 s1 s2
  have hf : ∀ j, y0.frozen? ⟨r, j, none⟩ = false := fun j => by simp [World.frozen?, HR0.out]
  have hf0 := hf 0
  have hf1 := hf 1
  have hf2 := hf 2
  clear hf
  go_wp2
  have hN := setRow_heap y0 r _ #[.int .i64 0, .int .i64 0, .slice none 0 0] _ _ HR0.out
  have HBN := Lib.hid (below_setRow (g := r) HB0.out (by have := HRW.out; omega) #[.int .i64 0, .int .i64 0, .slice none 0 0])
  rw [part3r HR0.out (.int .i64 0) (.int .i64 0) (.slice none 0 0)]
  exact bodyPost_ret (v := .tuple #[.agg #[.int .i64 0, .int .i64 0, .slice none 0 0], .int .i64 20]) (results_row2 (t := 52) Tryd.results24 rfl rfl hN Tryd.underlying52 rfl HI.out) rfl ⟨(20 : Nat), (0 : Nat), (0 : Nat), (0 : Nat), ([] : List UInt8), Value.slice none 0 0, .magic (fun hm => by rw [take3_is (by rw [← HL.out.1]; exact h3)] at hm; simp only [List.cons.injEq] at hm; exact G0.out (by rw [hm.1]; rfl)), rfl, rfl, World.ownsRow_nil _ _ _ _, HBN.out⟩

set_option maxHeartbeats 1000000 in
set_option maxRecDepth 100000 in
theorem rdecode_m1 (a : Option Addr) (n c : Nat) (l : List UInt8) (w : World) (hl : BA w a n c l) (hn : n ≤ 140737488351232) (h3 : 3 ≤ n) (g0 : ((l.getD 0 0).toNat : Int) = 80) (g1 : ¬ ((l.getD 1 0).toNat : Int) = 54) : Calls Tryd.prog 24 #[.slice a n c] w fun e' w' => Reads l w e' w' := by
  have HL := Lib.hid hl
  clear hl
  have G0 := Lib.hid g0
  clear g0
  have G1 := Lib.hid g1
  clear g1
  go_enter Tryd.func24, Tryd.ntmps24
  go_upto_region 1 with fail
  have hr0 := heap_alloc_last w (.cells #[.int .i64 0, .int .i64 0, .slice none 0 0] 52)
  have hb0 := Ve.below_n1 w (.cells #[.int .i64 0, .int .i64 0, .slice none 0 0] 52)
  obtain ⟨y0, hy0⟩ : ∃ y0, w.alloc (.cells #[.int .i64 0, .int .i64 0, .slice none 0 0] 52) = y0 := ⟨_, rfl⟩
  obtain ⟨r, hr⟩ : ∃ r, r = w.heap.size := ⟨_, rfl⟩
  rw [hy0] at hr0 hb0 ⊢
  rw [← hr] at hr0 ⊢
  have HRW := Lib.hid hr
  clear hy0 hr
  have HB0 := Lib.hid hb0
  have HL0 := Lib.hid (HL.out.on hb0)
  have hlt0 := lt_heap hr0
  have HR0 := Lib.hid hr0
  have HI := Lib.hid (show (Tryd.prog.info? 52).map (·.size) = some 3 by kernel_rfl)
  clear hb0 hr0
  obtain ⟨ad, had, e0⟩ := HL0.out.byte (k := 0) (by omega)
  subst had
  obtain ⟨b0, hb0⟩ : ∃ b : Int, b = ((l.getD 0 0).toNat : Int) := ⟨_, rfl⟩
  rw [← hb0] at e0
  have HX0 := Lib.hid hb0
  clear hb0
  have e0_ := e0
  simp [Addr.add] at e0_
  obtain ⟨ad, had, e1⟩ := HL0.out.byte (k := 1) (by omega)
  cases had
  obtain ⟨b1, hb1⟩ : ∃ b : Int, b = ((l.getD 1 0).toNat : Int) := ⟨_, rfl⟩
  rw [← hb1] at e1
  have HX1 := Lib.hid hb1
  clear hb1
  have e1_ := e1
  simp [Addr.add] at e1_
  have k0 : b0 = 80 := by rw [HX0.out]; exact G0.out
  have k1 : ¬ b1 = 54 := by rw [HX1.out]; exact G1.out
  subst k0
  have kk : (b1 != 54) = true := by simp [k1]
  have s0 := cell_of_row _ _ 0 _ _ _ HR0.out
  have s1 := cell_of_row _ _ 1 _ _ _ HR0.out
  have s2 := cell_of_row _ _ 2 _ _ _ HR0.out
  simp at s0 s1 s2
  have hf : ∀ j, y0.frozen? ⟨r, j, none⟩ = false := fun j => by simp [World.frozen?, HR0.out]
  have hf0 := hf 0
  have hf1 := hf 1
  have hf2 := hf 2
  clear hf
  go_wp2
  have hN := setRow_heap y0 r _ #[.int .i64 0, .int .i64 0, .slice none 0 0] _ _ HR0.out
  have HBN := Lib.hid (below_setRow (g := r) HB0.out (by have := HRW.out; omega) #[.int .i64 0, .int .i64 0, .slice none 0 0])
  rw [part3r HR0.out (.int .i64 0) (.int .i64 0) (.slice none 0 0)]
  exact bodyPost_ret (v := .tuple #[.agg #[.int .i64 0, .int .i64 0, .slice none 0 0], .int .i64 20]) (results_row2 (t := 52) Tryd.results24 rfl rfl hN Tryd.underlying52 rfl HI.out) rfl ⟨(20 : Nat), (0 : Nat), (0 : Nat), (0 : Nat), ([] : List UInt8), Value.slice none 0 0, .magic (fun hm => by rw [take3_is (by rw [← HL.out.1]; exact h3)] at hm; simp only [List.cons.injEq] at hm; exact G1.out (by rw [hm.2.1]; rfl)), rfl, rfl, World.ownsRow_nil _ _ _ _, HBN.out⟩

set_option maxHeartbeats 1000000 in
set_option maxRecDepth 100000 in
theorem rdecode_m2 (a : Option Addr) (n c : Nat) (l : List UInt8) (w : World) (hl : BA w a n c l) (hn : n ≤ 140737488351232) (h3 : 3 ≤ n) (g0 : ((l.getD 0 0).toNat : Int) = 80) (g1 : ((l.getD 1 0).toNat : Int) = 54) (g2 : ¬ ((l.getD 2 0).toNat : Int) = 10) : Calls Tryd.prog 24 #[.slice a n c] w fun e' w' => Reads l w e' w' := by
  have HL := Lib.hid hl
  clear hl
  have G0 := Lib.hid g0
  clear g0
  have G1 := Lib.hid g1
  clear g1
  have G2 := Lib.hid g2
  clear g2
  go_enter Tryd.func24, Tryd.ntmps24
  go_upto_region 1 with fail
  have hr0 := heap_alloc_last w (.cells #[.int .i64 0, .int .i64 0, .slice none 0 0] 52)
  have hb0 := Ve.below_n1 w (.cells #[.int .i64 0, .int .i64 0, .slice none 0 0] 52)
  obtain ⟨y0, hy0⟩ : ∃ y0, w.alloc (.cells #[.int .i64 0, .int .i64 0, .slice none 0 0] 52) = y0 := ⟨_, rfl⟩
  obtain ⟨r, hr⟩ : ∃ r, r = w.heap.size := ⟨_, rfl⟩
  rw [hy0] at hr0 hb0 ⊢
  rw [← hr] at hr0 ⊢
  have HRW := Lib.hid hr
  clear hy0 hr
  have HB0 := Lib.hid hb0
  have HL0 := Lib.hid (HL.out.on hb0)
  have hlt0 := lt_heap hr0
  have HR0 := Lib.hid hr0
  have HI := Lib.hid (show (Tryd.prog.info? 52).map (·.size) = some 3 by kernel_rfl)
  clear hb0 hr0
  obtain ⟨ad, had, e0⟩ := HL0.out.byte (k := 0) (by omega)
  subst had
  obtain ⟨b0, hb0⟩ : ∃ b : Int, b = ((l.getD 0 0).toNat : Int) := ⟨_, rfl⟩
  rw [← hb0] at e0
  have HX0 := Lib.hid hb0
  clear hb0
  have e0_ := e0
  simp [Addr.add] at e0_
  obtain ⟨ad, had, e1⟩ := HL0.out.byte (k := 1) (by omega)
  cases had
  obtain ⟨b1, hb1⟩ : ∃ b : Int, b = ((l.getD 1 0).toNat : Int) := ⟨_, rfl⟩
  rw [← hb1] at e1
  have HX1 := Lib.hid hb1
  clear hb1
  have e1_ := e1
  simp [Addr.add] at e1_
  obtain ⟨ad, had, e2⟩ := HL0.out.byte (k := 2) (by omega)
  cases had
  obtain ⟨b2, hb2⟩ : ∃ b : Int, b = ((l.getD 2 0).toNat : Int) := ⟨_, rfl⟩
  rw [← hb2] at e2
  have HX2 := Lib.hid hb2
  clear hb2
  have e2_ := e2
  simp [Addr.add] at e2_
  have k0 : b0 = 80 := by rw [HX0.out]; exact G0.out
  have k1 : b1 = 54 := by rw [HX1.out]; exact G1.out
  have k2 : ¬ b2 = 10 := by rw [HX2.out]; exact G2.out
  subst k0
  subst k1
  have kk : (b2 != 10) = true := by simp [k2]
  have s0 := cell_of_row _ _ 0 _ _ _ HR0.out
  have s1 := cell_of_row _ _ 1 _ _ _ HR0.out
  have s2 := cell_of_row _ _ 2 _ _ _ HR0.out
  simp at s0 s1 s2
  have hf : ∀ j, y0.frozen? ⟨r, j, none⟩ = false := fun j => by simp [World.frozen?, HR0.out]
  have hf0 := hf 0
  have hf1 := hf 1
  have hf2 := hf 2
  clear hf
  go_wp2
  have hN := setRow_heap y0 r _ #[.int .i64 0, .int .i64 0, .slice none 0 0] _ _ HR0.out
  have HBN := Lib.hid (below_setRow (g := r) HB0.out (by have := HRW.out; omega) #[.int .i64 0, .int .i64 0, .slice none 0 0])
  rw [part3r HR0.out (.int .i64 0) (.int .i64 0) (.slice none 0 0)]
  exact bodyPost_ret (v := .tuple #[.agg #[.int .i64 0, .int .i64 0, .slice none 0 0], .int .i64 20]) (results_row2 (t := 52) Tryd.results24 rfl rfl hN Tryd.underlying52 rfl HI.out) rfl ⟨(20 : Nat), (0 : Nat), (0 : Nat), (0 : Nat), ([] : List UInt8), Value.slice none 0 0, .magic (fun hm => by rw [take3_is (by rw [← HL.out.1]; exact h3)] at hm; simp only [List.cons.injEq] at hm; exact G2.out (by rw [hm.2.2.1]; rfl)), rfl, rfl, World.ownsRow_nil _ _ _ _, HBN.out⟩

end Go.Proofs.YtcohehekkeeeoaaDoor.Pg
