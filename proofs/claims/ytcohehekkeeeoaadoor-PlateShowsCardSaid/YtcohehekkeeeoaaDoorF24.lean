/- Layer 21 (plate): what is no file, by the program. -/
import Derived.Test.YtcohehekkeeeoaaDoorF23
import Derived.Test.YtcohehekkeeeoaaDoorF16
namespace Go.Proofs.YtcohehekkeeeoaaDoor.Pg
open Go Go.RowKit Go.Proofs.YtcohehekkeeeoaaDoor Go.Proofs.YtcohehekkeeeoaaDoor.Re Go.Proofs.YtcohehekkeeeoaaDoor.Au
set_option linter.unusedVariables false
set_option linter.unusedSimpArgs false

theorem part3r {w : World} {b : Nat} {p q s : Value} {t : TypeId} (h : w.heap[b]? = some (.cells #[p, q, s] t (0, 0))) (x y z : Value) : ((w.setCell ⟨b, 0, none⟩ x).setCell ⟨b, 1, none⟩ y).setCell ⟨b, 2, none⟩ z = w.setRow b #[x, y, z] := by
  rw [setCell_eq_setRow w b 0 _ t (0, 0) x h, setCell_eq_setRow _ b 1 _ t (0, 0) y (setRow_heap w b _ _ t _ h), setRow_setRow, setCell_eq_setRow _ b 2 _ t (0, 0) z (setRow_heap w b _ _ t _ h), setRow_setRow]
  rfl

set_option maxHeartbeats 1000000 in
set_option maxRecDepth 100000 in
theorem decode_short (a : Option Addr) (n c : Nat) (l : List UInt8) (w : World) (hl : BA w a n c l) (hn : n ≤ 140737488351232) (h3 : n < 3) : Calls Tryd.prog 23 #[.slice a n c] w fun e' w' => e' = .returned (.tuple #[.agg #[.int .i64 0, .int .i64 0, .slice none 0 0], .int .i64 20]) ∧ Below w.heap.size w w' := by
  have HL := Lib.hid hl
  have HLN := Lib.hid hl.1
  clear hl
  go_enter Tryd.func23, Tryd.ntmps23
  go_upto_region 1 with fail
  have hr0 := heap_alloc_last w (.cells #[.int .i64 0, .int .i64 0, .slice none 0 0] 44)
  have hb0 := Ve.below_n1 w (.cells #[.int .i64 0, .int .i64 0, .slice none 0 0] 44)
  obtain ⟨y0, hy0⟩ : ∃ y0, w.alloc (.cells #[.int .i64 0, .int .i64 0, .slice none 0 0] 44) = y0 := ⟨_, rfl⟩
  obtain ⟨r, hr⟩ : ∃ r, r = w.heap.size := ⟨_, rfl⟩
  rw [hy0] at hr0 hb0 ⊢
  rw [← hr] at hr0 ⊢
  have hwr : w.heap.size ≤ r := by omega
  clear hy0 hr
  have HB0 := Lib.hid hb0
  have HL0 := Lib.hid (HL.out.on hb0)
  have hlt0 := lt_heap hr0
  have HR0 := Lib.hid hr0
  have HI := Lib.hid (show (Tryd.prog.info? 44).map (·.size) = some 3 by kernel_rfl)
  clear hb0 hr0
  go_wp2_with fail
  refine (without_short a n c [80, 54, 10] 3 y0 rfl h3 (by omega)).mono ?_
  rintro e y1 ⟨rfl, rfl⟩
  have c0 := cell_of_row _ _ 0 _ _ _ HR0.out
  have c1 := cell_of_row _ _ 1 _ _ _ HR0.out
  have c2 := cell_of_row _ _ 2 _ _ _ HR0.out
  simp at c0 c1 c2
  have hf : ∀ j, y0.frozen? ⟨r, j, none⟩ = false := fun j => by simp [World.frozen?, HR0.out]
  have hf0 := hf 0
  have hf1 := hf 1
  have hf2 := hf 2
  clear hf
  go_wp2
  have hN := setRow_heap y0 r _ #[.int .i64 0, .int .i64 0, .slice none 0 0] _ _ HR0.out
  have HBN := Lib.hid (below_setRow (g := r) HB0.out hwr #[.int .i64 0, .int .i64 0, .slice none 0 0])
  rw [part3r HR0.out (.int .i64 0) (.int .i64 0) (.slice none 0 0)]
  exact bodyPost_ret (v := .tuple #[.agg #[.int .i64 0, .int .i64 0, .slice none 0 0], .int .i64 20]) (results_row2 (t := 44) Tryd.results23 rfl rfl hN Tryd.underlying44 rfl HI.out) rfl ⟨rfl, HBN.out⟩

set_option maxHeartbeats 1000000 in
set_option maxRecDepth 100000 in
theorem decode_magic (a : Option Addr) (n c : Nat) (l : List UInt8) (w : World) (hl : BA w a n c l) (hn : n ≤ 140737488351232) (h3 : 3 ≤ n) (hm : l.take 3 ≠ [80, 54, 10]) : Calls Tryd.prog 23 #[.slice a n c] w fun e' w' => e' = .returned (.tuple #[.agg #[.int .i64 0, .int .i64 0, .slice none 0 0], .int .i64 20]) ∧ Below w.heap.size w w' := by
  have HL := Lib.hid hl
  have HLN := Lib.hid hl.1
  clear hl
  go_enter Tryd.func23, Tryd.ntmps23
  go_upto_region 1 with fail
  have hr0 := heap_alloc_last w (.cells #[.int .i64 0, .int .i64 0, .slice none 0 0] 44)
  have hb0 := Ve.below_n1 w (.cells #[.int .i64 0, .int .i64 0, .slice none 0 0] 44)
  obtain ⟨y0, hy0⟩ : ∃ y0, w.alloc (.cells #[.int .i64 0, .int .i64 0, .slice none 0 0] 44) = y0 := ⟨_, rfl⟩
  obtain ⟨r, hr⟩ : ∃ r, r = w.heap.size := ⟨_, rfl⟩
  rw [hy0] at hr0 hb0 ⊢
  rw [← hr] at hr0 ⊢
  have hwr : w.heap.size ≤ r := by omega
  clear hy0 hr
  have HB0 := Lib.hid hb0
  have HL0 := Lib.hid (HL.out.on hb0)
  have hlt0 := lt_heap hr0
  have HR0 := Lib.hid hr0
  have HI := Lib.hid (show (Tryd.prog.info? 44).map (·.size) = some 3 by kernel_rfl)
  clear hb0 hr0
  go_wp2_with fail
  refine (without_no a n c l [80, 54, 10] 3 y0 HL0.out rfl h3 (by omega) (by omega) hn hm).mono ?_
  rintro e y1 ⟨rfl, rfl⟩
  have c0 := cell_of_row _ _ 0 _ _ _ HR0.out
  have c1 := cell_of_row _ _ 1 _ _ _ HR0.out
  have c2 := cell_of_row _ _ 2 _ _ _ HR0.out
  simp at c0 c1 c2
  have hf : ∀ j, y0.frozen? ⟨r, j, none⟩ = false := fun j => by simp [World.frozen?, HR0.out]
  have hf0 := hf 0
  have hf1 := hf 1
  have hf2 := hf 2
  clear hf
  go_wp2
  have hN := setRow_heap y0 r _ #[.int .i64 0, .int .i64 0, .slice none 0 0] _ _ HR0.out
  have HBN := Lib.hid (below_setRow (g := r) HB0.out hwr #[.int .i64 0, .int .i64 0, .slice none 0 0])
  rw [part3r HR0.out (.int .i64 0) (.int .i64 0) (.slice none 0 0)]
  exact bodyPost_ret (v := .tuple #[.agg #[.int .i64 0, .int .i64 0, .slice none 0 0], .int .i64 20]) (results_row2 (t := 44) Tryd.results23 rfl rfl hN Tryd.underlying44 rfl HI.out) rfl ⟨rfl, HBN.out⟩

set_option maxHeartbeats 1000000 in
set_option maxRecDepth 100000 in
theorem decode_no1 (a : Option Addr) (n c : Nat) (l : List UInt8) (w : World) (hl : BA w a n c l) (hn : n ≤ 140737488351232) (h3 : 3 ≤ n) (hm : l.take 3 = [80, 54, 10]) (hs : sideR 0 0 (l.drop 3) 32 = none) : Calls Tryd.prog 23 #[.slice a n c] w fun e' w' => e' = .returned (.tuple #[.agg #[.int .i64 0, .int .i64 0, .slice none 0 0], .int .i64 10]) ∧ Below w.heap.size w w' := by
  have HL := Lib.hid hl
  have HLN := Lib.hid hl.1
  clear hl
  go_enter Tryd.func23, Tryd.ntmps23
  go_upto_region 1 with fail
  have hr0 := heap_alloc_last w (.cells #[.int .i64 0, .int .i64 0, .slice none 0 0] 44)
  have hb0 := Ve.below_n1 w (.cells #[.int .i64 0, .int .i64 0, .slice none 0 0] 44)
  obtain ⟨y0, hy0⟩ : ∃ y0, w.alloc (.cells #[.int .i64 0, .int .i64 0, .slice none 0 0] 44) = y0 := ⟨_, rfl⟩
  obtain ⟨r, hr⟩ : ∃ r, r = w.heap.size := ⟨_, rfl⟩
  rw [hy0] at hr0 hb0 ⊢
  rw [← hr] at hr0 ⊢
  have hwr : w.heap.size ≤ r := by omega
  clear hy0 hr
  have HB0 := Lib.hid hb0
  have HL0 := Lib.hid (HL.out.on hb0)
  have hlt0 := lt_heap hr0
  have HR0 := Lib.hid hr0
  have HI := Lib.hid (show (Tryd.prog.info? 44).map (·.size) = some 3 by kernel_rfl)
  clear hb0 hr0
  go_wp2_with fail
  refine (without_yes a n c l [80, 54, 10] 3 y0 HL0.out rfl h3 (by omega) (by omega) hn hm).mono ?_
  rintro e y1 ⟨⟨a1, rfl, hB1⟩, rfl⟩
  have HL1 := Lib.hid hB1
  clear hB1
  go_wp2_with fail
  refine (size_no1 a1 (n - 3) (c - 3) (l.drop 3) y0 HL1.out (by omega) hs).mono ?_
  rintro e y2 ⟨rfl, hb2⟩
  have HB2 := Lib.hid (HB0.out.trans (hb2.mono HB0.out.size))
  have hr2 := (hb2.block _ hlt0).trans HR0.out
  have hlt2 := lt_heap hr2
  have HR2 := Lib.hid hr2
  clear hr2
  have hb3 := Ve.below_n1 y2 (.cells #[.int .i64 0, .int .i64 0] 33)
  go_upto_region 5 with fail
  obtain ⟨y3, hy3⟩ : ∃ y3, y2.alloc (.cells #[.int .i64 0, .int .i64 0] 33) = y3 := ⟨_, rfl⟩
  rw [hy3] at hb3 ⊢
  have HB3 := Lib.hid (HB2.out.trans (hb3.mono HB2.out.size))
  have hr3 := (hb3.block _ hlt2).trans HR2.out
  have hlt3 := lt_heap hr3
  have HR3 := Lib.hid hr3
  clear hr3
  clear hy3 hb3 hb2
  have c0 := cell_of_row _ _ 0 _ _ _ HR3.out
  have c1 := cell_of_row _ _ 1 _ _ _ HR3.out
  have c2 := cell_of_row _ _ 2 _ _ _ HR3.out
  simp at c0 c1 c2
  have hf : ∀ j, y3.frozen? ⟨r, j, none⟩ = false := fun j => by simp [World.frozen?, HR3.out]
  have hf0 := hf 0
  have hf1 := hf 1
  have hf2 := hf 2
  clear hf
  go_wp2
  have hN := setRow_heap y3 r _ #[.int .i64 0, .int .i64 0, .slice none 0 0] _ _ HR3.out
  have HBN := Lib.hid (below_setRow (g := r) HB3.out hwr #[.int .i64 0, .int .i64 0, .slice none 0 0])
  rw [part3r HR3.out (.int .i64 0) (.int .i64 0) (.slice none 0 0)]
  exact bodyPost_ret (v := .tuple #[.agg #[.int .i64 0, .int .i64 0, .slice none 0 0], .int .i64 10]) (results_row2 (t := 44) Tryd.results23 rfl rfl hN Tryd.underlying44 rfl HI.out) rfl ⟨rfl, HBN.out⟩

set_option maxHeartbeats 1000000 in
set_option maxRecDepth 100000 in
theorem decode_no2 (a : Option Addr) (n c : Nat) (l : List UInt8) (w : World) (hl : BA w a n c l) (hn : n ≤ 140737488351232) (h3 : 3 ≤ n) (hm : l.take 3 = [80, 54, 10]) (m : Nat) (r1 : List UInt8) (hs : sideR 0 0 (l.drop 3) 32 = some (m, r1)) (hs2 : sideR 0 0 r1 10 = none) : Calls Tryd.prog 23 #[.slice a n c] w fun e' w' => e' = .returned (.tuple #[.agg #[.int .i64 0, .int .i64 0, .slice none 0 0], .int .i64 10]) ∧ Below w.heap.size w w' := by
  have HL := Lib.hid hl
  have HLN := Lib.hid hl.1
  clear hl
  go_enter Tryd.func23, Tryd.ntmps23
  go_upto_region 1 with fail
  have hr0 := heap_alloc_last w (.cells #[.int .i64 0, .int .i64 0, .slice none 0 0] 44)
  have hb0 := Ve.below_n1 w (.cells #[.int .i64 0, .int .i64 0, .slice none 0 0] 44)
  obtain ⟨y0, hy0⟩ : ∃ y0, w.alloc (.cells #[.int .i64 0, .int .i64 0, .slice none 0 0] 44) = y0 := ⟨_, rfl⟩
  obtain ⟨r, hr⟩ : ∃ r, r = w.heap.size := ⟨_, rfl⟩
  rw [hy0] at hr0 hb0 ⊢
  rw [← hr] at hr0 ⊢
  have hwr : w.heap.size ≤ r := by omega
  clear hy0 hr
  have HB0 := Lib.hid hb0
  have HL0 := Lib.hid (HL.out.on hb0)
  have hlt0 := lt_heap hr0
  have HR0 := Lib.hid hr0
  have HI := Lib.hid (show (Tryd.prog.info? 44).map (·.size) = some 3 by kernel_rfl)
  clear hb0 hr0
  go_wp2_with fail
  refine (without_yes a n c l [80, 54, 10] 3 y0 HL0.out rfl h3 (by omega) (by omega) hn hm).mono ?_
  rintro e y1 ⟨⟨a1, rfl, hB1⟩, rfl⟩
  have HL1 := Lib.hid hB1
  clear hB1
  go_wp2_with fail
  refine (size_no2 a1 (n - 3) (c - 3) (l.drop 3) y0 HL1.out (by omega) m r1 hs hs2).mono ?_
  rintro e y2 ⟨⟨A, rfl, x, y, rfl⟩, hb2⟩
  have HB2 := Lib.hid (HB0.out.trans (hb2.mono HB0.out.size))
  have hr2 := (hb2.block _ hlt0).trans HR0.out
  have hlt2 := lt_heap hr2
  have HR2 := Lib.hid hr2
  clear hr2
  have hb3 := Ve.below_n1 y2 (.cells #[.int .i64 x, .int .i64 y] 33)
  go_upto_region 5 with fail
  obtain ⟨y3, hy3⟩ : ∃ y3, y2.alloc (.cells #[.int .i64 x, .int .i64 y] 33) = y3 := ⟨_, rfl⟩
  rw [hy3] at hb3 ⊢
  have HB3 := Lib.hid (HB2.out.trans (hb3.mono HB2.out.size))
  have hr3 := (hb3.block _ hlt2).trans HR2.out
  have hlt3 := lt_heap hr3
  have HR3 := Lib.hid hr3
  clear hr3
  clear hy3 hb3 hb2
  have c0 := cell_of_row _ _ 0 _ _ _ HR3.out
  have c1 := cell_of_row _ _ 1 _ _ _ HR3.out
  have c2 := cell_of_row _ _ 2 _ _ _ HR3.out
  simp at c0 c1 c2
  have hf : ∀ j, y3.frozen? ⟨r, j, none⟩ = false := fun j => by simp [World.frozen?, HR3.out]
  have hf0 := hf 0
  have hf1 := hf 1
  have hf2 := hf 2
  clear hf
  go_wp2
  have hN := setRow_heap y3 r _ #[.int .i64 0, .int .i64 0, .slice none 0 0] _ _ HR3.out
  have HBN := Lib.hid (below_setRow (g := r) HB3.out hwr #[.int .i64 0, .int .i64 0, .slice none 0 0])
  rw [part3r HR3.out (.int .i64 0) (.int .i64 0) (.slice none 0 0)]
  exact bodyPost_ret (v := .tuple #[.agg #[.int .i64 0, .int .i64 0, .slice none 0 0], .int .i64 10]) (results_row2 (t := 44) Tryd.results23 rfl rfl hN Tryd.underlying44 rfl HI.out) rfl ⟨rfl, HBN.out⟩

set_option maxHeartbeats 1000000 in
set_option maxRecDepth 100000 in
theorem decode_size (a : Option Addr) (n c : Nat) (l : List UInt8) (w : World) (hl : BA w a n c l) (hn : n ≤ 140737488351232) (h3 : 3 ≤ n) (hm : l.take 3 = [80, 54, 10]) (m m2 : Nat) (r1 r2 : List UInt8) (hs : sideR 0 0 (l.drop 3) 32 = some (m, r1)) (hs2 : sideR 0 0 r1 10 = some (m2, r2)) (hok : ¬ Fm.okSz (m : Int) (m2 : Int)) : Calls Tryd.prog 23 #[.slice a n c] w fun e' w' => e' = .returned (.tuple #[.agg #[.int .i64 0, .int .i64 0, .slice none 0 0], .int .i64 10]) ∧ Below w.heap.size w w' := by
  have HL := Lib.hid hl
  have HLN := Lib.hid hl.1
  clear hl
  go_enter Tryd.func23, Tryd.ntmps23
  go_upto_region 1 with fail
  have hr0 := heap_alloc_last w (.cells #[.int .i64 0, .int .i64 0, .slice none 0 0] 44)
  have hb0 := Ve.below_n1 w (.cells #[.int .i64 0, .int .i64 0, .slice none 0 0] 44)
  obtain ⟨y0, hy0⟩ : ∃ y0, w.alloc (.cells #[.int .i64 0, .int .i64 0, .slice none 0 0] 44) = y0 := ⟨_, rfl⟩
  obtain ⟨r, hr⟩ : ∃ r, r = w.heap.size := ⟨_, rfl⟩
  rw [hy0] at hr0 hb0 ⊢
  rw [← hr] at hr0 ⊢
  have hwr : w.heap.size ≤ r := by omega
  clear hy0 hr
  have HB0 := Lib.hid hb0
  have HL0 := Lib.hid (HL.out.on hb0)
  have hlt0 := lt_heap hr0
  have HR0 := Lib.hid hr0
  have HI := Lib.hid (show (Tryd.prog.info? 44).map (·.size) = some 3 by kernel_rfl)
  clear hb0 hr0
  have HOK := Lib.hid hok
  clear hok
  go_wp2_with fail
  refine (without_yes a n c l [80, 54, 10] 3 y0 HL0.out rfl h3 (by omega) (by omega) hn hm).mono ?_
  rintro e y1 ⟨⟨a1, rfl, hB1⟩, rfl⟩
  have HL1 := Lib.hid hB1
  clear hB1
  go_wp2_with fail
  refine (size_yes a1 (n - 3) (c - 3) (l.drop 3) y0 HL1.out (by omega) m m2 r1 r2 hs hs2).mono ?_
  rintro e y2 ⟨⟨a2, n2, c2_, rfl, hB2⟩, hb2⟩
  have HL2 := Lib.hid (hB2 y2 (HL1.out.on hb2))
  have hn2 : n2 ≤ 140737488351232 := by
    have q0 := (hB2 y2 (HL1.out.on hb2)).1
    have q1 := side_len (by decide) hs
    have q2 := side_len (by decide) hs2
    rw [List.length_drop] at q1
    have q3 := HLN.out
    omega
  have HB2 := Lib.hid (HB0.out.trans (hb2.mono HB0.out.size))
  have hr2 := (hb2.block _ hlt0).trans HR0.out
  have hlt2 := lt_heap hr2
  have HR2 := Lib.hid hr2
  clear hr2
  have hb3 := Ve.below_n1 y2 (.cells #[.int .i64 m, .int .i64 m2] 33)
  have hp3 := heap_alloc_last y2 (.cells #[.int .i64 m, .int .i64 m2] 33)
  have HL3 := Lib.hid (HL2.out.on hb3)
  clear hB2 hb2
  go_upto_region 5 with fail
  obtain ⟨y3, hy3⟩ : ∃ y3, y2.alloc (.cells #[.int .i64 m, .int .i64 m2] 33) = y3 := ⟨_, rfl⟩
  obtain ⟨p, hp⟩ : ∃ p, p = y2.heap.size := ⟨_, rfl⟩
  rw [hy3] at hb3 hp3 HL3 ⊢
  rw [← hp] at hp3 ⊢
  clear hy3 hp
  have HB3 := Lib.hid (HB2.out.trans (hb3.mono HB2.out.size))
  have hr3 := (hb3.block _ hlt2).trans HR2.out
  have hlt3 := lt_heap hr3
  have HR3 := Lib.hid hr3
  clear hr3
  have HP3 := Lib.hid hp3
  have q0 := cell_of_row _ _ 0 _ _ _ hp3
  have q1 := cell_of_row _ _ 1 _ _ _ hp3
  simp at q0 q1
  have hltp := lt_heap hp3
  clear hb3 hp3 hlt2
  go_upto_region 6 with (go_at_call 48; refine (szright_f (m : Int) (m2 : Int) HOK.out _).mono ?_; rintro e y4 ⟨rfl, hb4⟩)
  have HB4 := Lib.hid (HB3.out.trans (hb4.mono HB3.out.size))
  have hr4 := (hb4.block _ hlt3).trans HR3.out
  have hlt4 := lt_heap hr4
  have HR4 := Lib.hid hr4
  clear hr4
  have HL4 := Lib.hid (HL3.out.on hb4)
  have hp4 := (hb4.block _ hltp).trans HP3.out
  have hltp4 := lt_heap hp4
  have HP4 := Lib.hid hp4
  clear hb4 q0 q1 hp4 hltp
  have c0 := cell_of_row _ _ 0 _ _ _ HR4.out
  have c1 := cell_of_row _ _ 1 _ _ _ HR4.out
  have c2 := cell_of_row _ _ 2 _ _ _ HR4.out
  simp at c0 c1 c2
  have hf : ∀ j, y4.frozen? ⟨r, j, none⟩ = false := fun j => by simp [World.frozen?, HR4.out]
  have hf0 := hf 0
  have hf1 := hf 1
  have hf2 := hf 2
  clear hf
  go_wp2
  have hN := setRow_heap y4 r _ #[.int .i64 0, .int .i64 0, .slice none 0 0] _ _ HR4.out
  have HBN := Lib.hid (below_setRow (g := r) HB4.out hwr #[.int .i64 0, .int .i64 0, .slice none 0 0])
  rw [part3r HR4.out (.int .i64 0) (.int .i64 0) (.slice none 0 0)]
  exact bodyPost_ret (v := .tuple #[.agg #[.int .i64 0, .int .i64 0, .slice none 0 0], .int .i64 10]) (results_row2 (t := 44) Tryd.results23 rfl rfl hN Tryd.underlying44 rfl HI.out) rfl ⟨rfl, HBN.out⟩

set_option maxHeartbeats 1000000 in
set_option maxRecDepth 100000 in
theorem decode_dshort (a : Option Addr) (n c : Nat) (l : List UInt8) (w : World) (hl : BA w a n c l) (hn : n ≤ 140737488351232) (h3 : 3 ≤ n) (hm : l.take 3 = [80, 54, 10]) (m m2 : Nat) (r1 r2 : List UInt8) (hs : sideR 0 0 (l.drop 3) 32 = some (m, r1)) (hs2 : sideR 0 0 r1 10 = some (m2, r2)) (hok : Fm.okSz (m : Int) (m2 : Int)) (h4 : r2.length < 4) : Calls Tryd.prog 23 #[.slice a n c] w fun e' w' => e' = .returned (.tuple #[.agg #[.int .i64 0, .int .i64 0, .slice none 0 0], .int .i64 10]) ∧ Below w.heap.size w w' := by
  have HL := Lib.hid hl
  have HLN := Lib.hid hl.1
  clear hl
  go_enter Tryd.func23, Tryd.ntmps23
  go_upto_region 1 with fail
  have hr0 := heap_alloc_last w (.cells #[.int .i64 0, .int .i64 0, .slice none 0 0] 44)
  have hb0 := Ve.below_n1 w (.cells #[.int .i64 0, .int .i64 0, .slice none 0 0] 44)
  obtain ⟨y0, hy0⟩ : ∃ y0, w.alloc (.cells #[.int .i64 0, .int .i64 0, .slice none 0 0] 44) = y0 := ⟨_, rfl⟩
  obtain ⟨r, hr⟩ : ∃ r, r = w.heap.size := ⟨_, rfl⟩
  rw [hy0] at hr0 hb0 ⊢
  rw [← hr] at hr0 ⊢
  have hwr : w.heap.size ≤ r := by omega
  clear hy0 hr
  have HB0 := Lib.hid hb0
  have HL0 := Lib.hid (HL.out.on hb0)
  have hlt0 := lt_heap hr0
  have HR0 := Lib.hid hr0
  have HI := Lib.hid (show (Tryd.prog.info? 44).map (·.size) = some 3 by kernel_rfl)
  clear hb0 hr0
  have HOK := Lib.hid hok
  clear hok
  go_wp2_with fail
  refine (without_yes a n c l [80, 54, 10] 3 y0 HL0.out rfl h3 (by omega) (by omega) hn hm).mono ?_
  rintro e y1 ⟨⟨a1, rfl, hB1⟩, rfl⟩
  have HL1 := Lib.hid hB1
  clear hB1
  go_wp2_with fail
  refine (size_yes a1 (n - 3) (c - 3) (l.drop 3) y0 HL1.out (by omega) m m2 r1 r2 hs hs2).mono ?_
  rintro e y2 ⟨⟨a2, n2, c2_, rfl, hB2⟩, hb2⟩
  have HL2 := Lib.hid (hB2 y2 (HL1.out.on hb2))
  have hn2 : n2 ≤ 140737488351232 := by
    have q0 := (hB2 y2 (HL1.out.on hb2)).1
    have q1 := side_len (by decide) hs
    have q2 := side_len (by decide) hs2
    rw [List.length_drop] at q1
    have q3 := HLN.out
    omega
  have HB2 := Lib.hid (HB0.out.trans (hb2.mono HB0.out.size))
  have hr2 := (hb2.block _ hlt0).trans HR0.out
  have hlt2 := lt_heap hr2
  have HR2 := Lib.hid hr2
  clear hr2
  have hb3 := Ve.below_n1 y2 (.cells #[.int .i64 m, .int .i64 m2] 33)
  have hp3 := heap_alloc_last y2 (.cells #[.int .i64 m, .int .i64 m2] 33)
  have HL3 := Lib.hid (HL2.out.on hb3)
  clear hB2 hb2
  go_upto_region 5 with fail
  obtain ⟨y3, hy3⟩ : ∃ y3, y2.alloc (.cells #[.int .i64 m, .int .i64 m2] 33) = y3 := ⟨_, rfl⟩
  obtain ⟨p, hp⟩ : ∃ p, p = y2.heap.size := ⟨_, rfl⟩
  rw [hy3] at hb3 hp3 HL3 ⊢
  rw [← hp] at hp3 ⊢
  clear hy3 hp
  have HB3 := Lib.hid (HB2.out.trans (hb3.mono HB2.out.size))
  have hr3 := (hb3.block _ hlt2).trans HR2.out
  have hlt3 := lt_heap hr3
  have HR3 := Lib.hid hr3
  clear hr3
  have HP3 := Lib.hid hp3
  have q0 := cell_of_row _ _ 0 _ _ _ hp3
  have q1 := cell_of_row _ _ 1 _ _ _ hp3
  simp at q0 q1
  have hltp := lt_heap hp3
  clear hb3 hp3 hlt2
  go_upto_region 7 with (go_at_call 48; refine (szright_t (m : Int) (m2 : Int) HOK.out _).mono ?_; rintro e y4 ⟨rfl, hb4⟩)
  have HB4 := Lib.hid (HB3.out.trans (hb4.mono HB3.out.size))
  have hr4 := (hb4.block _ hlt3).trans HR3.out
  have hlt4 := lt_heap hr4
  have HR4 := Lib.hid hr4
  clear hr4
  have HL4 := Lib.hid (HL3.out.on hb4)
  have hp4 := (hb4.block _ hltp).trans HP3.out
  have hltp4 := lt_heap hp4
  have HP4 := Lib.hid hp4
  clear hb4 q0 q1 hp4 hltp
  go_wp2_with fail
  refine (without_short a2 n2 c2_ [50, 53, 53, 10] 4 y4 rfl (by have := HL4.out.1; omega) (by omega)).mono ?_
  rintro e y5 ⟨rfl, rfl⟩
  have c0 := cell_of_row _ _ 0 _ _ _ HR4.out
  have c1 := cell_of_row _ _ 1 _ _ _ HR4.out
  have c2 := cell_of_row _ _ 2 _ _ _ HR4.out
  simp at c0 c1 c2
  have hf : ∀ j, y4.frozen? ⟨r, j, none⟩ = false := fun j => by simp [World.frozen?, HR4.out]
  have hf0 := hf 0
  have hf1 := hf 1
  have hf2 := hf 2
  clear hf
  go_wp2
  have hN := setRow_heap y4 r _ #[.int .i64 0, .int .i64 0, .slice none 0 0] _ _ HR4.out
  have HBN := Lib.hid (below_setRow (g := r) HB4.out hwr #[.int .i64 0, .int .i64 0, .slice none 0 0])
  rw [part3r HR4.out (.int .i64 0) (.int .i64 0) (.slice none 0 0)]
  exact bodyPost_ret (v := .tuple #[.agg #[.int .i64 0, .int .i64 0, .slice none 0 0], .int .i64 10]) (results_row2 (t := 44) Tryd.results23 rfl rfl hN Tryd.underlying44 rfl HI.out) rfl ⟨rfl, HBN.out⟩

set_option maxHeartbeats 1000000 in
set_option maxRecDepth 100000 in
theorem decode_depth (a : Option Addr) (n c : Nat) (l : List UInt8) (w : World) (hl : BA w a n c l) (hn : n ≤ 140737488351232) (h3 : 3 ≤ n) (hm : l.take 3 = [80, 54, 10]) (m m2 : Nat) (r1 r2 : List UInt8) (hs : sideR 0 0 (l.drop 3) 32 = some (m, r1)) (hs2 : sideR 0 0 r1 10 = some (m2, r2)) (hok : Fm.okSz (m : Int) (m2 : Int)) (h4 : 4 ≤ r2.length) (hd : r2.take 4 ≠ [50, 53, 53, 10]) : Calls Tryd.prog 23 #[.slice a n c] w fun e' w' => e' = .returned (.tuple #[.agg #[.int .i64 0, .int .i64 0, .slice none 0 0], .int .i64 10]) ∧ Below w.heap.size w w' := by
  have HL := Lib.hid hl
  have HLN := Lib.hid hl.1
  clear hl
  go_enter Tryd.func23, Tryd.ntmps23
  go_upto_region 1 with fail
  have hr0 := heap_alloc_last w (.cells #[.int .i64 0, .int .i64 0, .slice none 0 0] 44)
  have hb0 := Ve.below_n1 w (.cells #[.int .i64 0, .int .i64 0, .slice none 0 0] 44)
  obtain ⟨y0, hy0⟩ : ∃ y0, w.alloc (.cells #[.int .i64 0, .int .i64 0, .slice none 0 0] 44) = y0 := ⟨_, rfl⟩
  obtain ⟨r, hr⟩ : ∃ r, r = w.heap.size := ⟨_, rfl⟩
  rw [hy0] at hr0 hb0 ⊢
  rw [← hr] at hr0 ⊢
  have hwr : w.heap.size ≤ r := by omega
  clear hy0 hr
  have HB0 := Lib.hid hb0
  have HL0 := Lib.hid (HL.out.on hb0)
  have hlt0 := lt_heap hr0
  have HR0 := Lib.hid hr0
  have HI := Lib.hid (show (Tryd.prog.info? 44).map (·.size) = some 3 by kernel_rfl)
  clear hb0 hr0
  have HOK := Lib.hid hok
  clear hok
  go_wp2_with fail
  refine (without_yes a n c l [80, 54, 10] 3 y0 HL0.out rfl h3 (by omega) (by omega) hn hm).mono ?_
  rintro e y1 ⟨⟨a1, rfl, hB1⟩, rfl⟩
  have HL1 := Lib.hid hB1
  clear hB1
  go_wp2_with fail
  refine (size_yes a1 (n - 3) (c - 3) (l.drop 3) y0 HL1.out (by omega) m m2 r1 r2 hs hs2).mono ?_
  rintro e y2 ⟨⟨a2, n2, c2_, rfl, hB2⟩, hb2⟩
  have HL2 := Lib.hid (hB2 y2 (HL1.out.on hb2))
  have hn2 : n2 ≤ 140737488351232 := by
    have q0 := (hB2 y2 (HL1.out.on hb2)).1
    have q1 := side_len (by decide) hs
    have q2 := side_len (by decide) hs2
    rw [List.length_drop] at q1
    have q3 := HLN.out
    omega
  have HB2 := Lib.hid (HB0.out.trans (hb2.mono HB0.out.size))
  have hr2 := (hb2.block _ hlt0).trans HR0.out
  have hlt2 := lt_heap hr2
  have HR2 := Lib.hid hr2
  clear hr2
  have hb3 := Ve.below_n1 y2 (.cells #[.int .i64 m, .int .i64 m2] 33)
  have hp3 := heap_alloc_last y2 (.cells #[.int .i64 m, .int .i64 m2] 33)
  have HL3 := Lib.hid (HL2.out.on hb3)
  clear hB2 hb2
  go_upto_region 5 with fail
  obtain ⟨y3, hy3⟩ : ∃ y3, y2.alloc (.cells #[.int .i64 m, .int .i64 m2] 33) = y3 := ⟨_, rfl⟩
  obtain ⟨p, hp⟩ : ∃ p, p = y2.heap.size := ⟨_, rfl⟩
  rw [hy3] at hb3 hp3 HL3 ⊢
  rw [← hp] at hp3 ⊢
  clear hy3 hp
  have HB3 := Lib.hid (HB2.out.trans (hb3.mono HB2.out.size))
  have hr3 := (hb3.block _ hlt2).trans HR2.out
  have hlt3 := lt_heap hr3
  have HR3 := Lib.hid hr3
  clear hr3
  have HP3 := Lib.hid hp3
  have q0 := cell_of_row _ _ 0 _ _ _ hp3
  have q1 := cell_of_row _ _ 1 _ _ _ hp3
  simp at q0 q1
  have hltp := lt_heap hp3
  clear hb3 hp3 hlt2
  go_upto_region 7 with (go_at_call 48; refine (szright_t (m : Int) (m2 : Int) HOK.out _).mono ?_; rintro e y4 ⟨rfl, hb4⟩)
  have HB4 := Lib.hid (HB3.out.trans (hb4.mono HB3.out.size))
  have hr4 := (hb4.block _ hlt3).trans HR3.out
  have hlt4 := lt_heap hr4
  have HR4 := Lib.hid hr4
  clear hr4
  have HL4 := Lib.hid (HL3.out.on hb4)
  have hp4 := (hb4.block _ hltp).trans HP3.out
  have hltp4 := lt_heap hp4
  have HP4 := Lib.hid hp4
  clear hb4 q0 q1 hp4 hltp
  go_wp2_with fail
  refine (without_no a2 n2 c2_ r2 [50, 53, 53, 10] 4 y4 HL4.out rfl (by have := HL4.out.1; omega) (by omega) (by omega) hn2 hd).mono ?_
  rintro e y5 ⟨rfl, rfl⟩
  have c0 := cell_of_row _ _ 0 _ _ _ HR4.out
  have c1 := cell_of_row _ _ 1 _ _ _ HR4.out
  have c2 := cell_of_row _ _ 2 _ _ _ HR4.out
  simp at c0 c1 c2
  have hf : ∀ j, y4.frozen? ⟨r, j, none⟩ = false := fun j => by simp [World.frozen?, HR4.out]
  have hf0 := hf 0
  have hf1 := hf 1
  have hf2 := hf 2
  clear hf
  go_wp2
  have hN := setRow_heap y4 r _ #[.int .i64 0, .int .i64 0, .slice none 0 0] _ _ HR4.out
  have HBN := Lib.hid (below_setRow (g := r) HB4.out hwr #[.int .i64 0, .int .i64 0, .slice none 0 0])
  rw [part3r HR4.out (.int .i64 0) (.int .i64 0) (.slice none 0 0)]
  exact bodyPost_ret (v := .tuple #[.agg #[.int .i64 0, .int .i64 0, .slice none 0 0], .int .i64 10]) (results_row2 (t := 44) Tryd.results23 rfl rfl hN Tryd.underlying44 rfl HI.out) rfl ⟨rfl, HBN.out⟩

set_option maxHeartbeats 1000000 in
set_option maxRecDepth 100000 in
theorem decode_few (a : Option Addr) (n c : Nat) (l : List UInt8) (w : World) (hl : BA w a n c l) (hn : n ≤ 140737488351232) (h3 : 3 ≤ n) (hm : l.take 3 = [80, 54, 10]) (m m2 : Nat) (r1 r2 : List UInt8) (hs : sideR 0 0 (l.drop 3) 32 = some (m, r1)) (hs2 : sideR 0 0 r1 10 = some (m2, r2)) (hok : Fm.okSz (m : Int) (m2 : Int)) (h4 : 4 ≤ r2.length) (hd : r2.take 4 = [50, 53, 53, 10]) (hl3 : ((r2.length - 4 : Nat) : Int) < 3 * ((m : Int) * (m2 : Int))) : Calls Tryd.prog 23 #[.slice a n c] w fun e' w' => e' = .returned (.tuple #[.agg #[.int .i64 0, .int .i64 0, .slice none 0 0], .int .i64 9]) ∧ Below w.heap.size w w' := by
  have HL := Lib.hid hl
  have HLN := Lib.hid hl.1
  clear hl
  go_enter Tryd.func23, Tryd.ntmps23
  go_upto_region 1 with fail
  have hr0 := heap_alloc_last w (.cells #[.int .i64 0, .int .i64 0, .slice none 0 0] 44)
  have hb0 := Ve.below_n1 w (.cells #[.int .i64 0, .int .i64 0, .slice none 0 0] 44)
  obtain ⟨y0, hy0⟩ : ∃ y0, w.alloc (.cells #[.int .i64 0, .int .i64 0, .slice none 0 0] 44) = y0 := ⟨_, rfl⟩
  obtain ⟨r, hr⟩ : ∃ r, r = w.heap.size := ⟨_, rfl⟩
  rw [hy0] at hr0 hb0 ⊢
  rw [← hr] at hr0 ⊢
  have hwr : w.heap.size ≤ r := by omega
  clear hy0 hr
  have HB0 := Lib.hid hb0
  have HL0 := Lib.hid (HL.out.on hb0)
  have hlt0 := lt_heap hr0
  have HR0 := Lib.hid hr0
  have HI := Lib.hid (show (Tryd.prog.info? 44).map (·.size) = some 3 by kernel_rfl)
  clear hb0 hr0
  have HOK := Lib.hid hok
  clear hok
  have HL3x := Lib.hid hl3
  clear hl3
  go_wp2_with fail
  refine (without_yes a n c l [80, 54, 10] 3 y0 HL0.out rfl h3 (by omega) (by omega) hn hm).mono ?_
  rintro e y1 ⟨⟨a1, rfl, hB1⟩, rfl⟩
  have HL1 := Lib.hid hB1
  clear hB1
  go_wp2_with fail
  refine (size_yes a1 (n - 3) (c - 3) (l.drop 3) y0 HL1.out (by omega) m m2 r1 r2 hs hs2).mono ?_
  rintro e y2 ⟨⟨a2, n2, c2_, rfl, hB2⟩, hb2⟩
  have HL2 := Lib.hid (hB2 y2 (HL1.out.on hb2))
  have hn2 : n2 ≤ 140737488351232 := by
    have q0 := (hB2 y2 (HL1.out.on hb2)).1
    have q1 := side_len (by decide) hs
    have q2 := side_len (by decide) hs2
    rw [List.length_drop] at q1
    have q3 := HLN.out
    omega
  have HB2 := Lib.hid (HB0.out.trans (hb2.mono HB0.out.size))
  have hr2 := (hb2.block _ hlt0).trans HR0.out
  have hlt2 := lt_heap hr2
  have HR2 := Lib.hid hr2
  clear hr2
  have hb3 := Ve.below_n1 y2 (.cells #[.int .i64 m, .int .i64 m2] 33)
  have hp3 := heap_alloc_last y2 (.cells #[.int .i64 m, .int .i64 m2] 33)
  have HL3 := Lib.hid (HL2.out.on hb3)
  clear hB2 hb2
  go_upto_region 5 with fail
  obtain ⟨y3, hy3⟩ : ∃ y3, y2.alloc (.cells #[.int .i64 m, .int .i64 m2] 33) = y3 := ⟨_, rfl⟩
  obtain ⟨p, hp⟩ : ∃ p, p = y2.heap.size := ⟨_, rfl⟩
  rw [hy3] at hb3 hp3 HL3 ⊢
  rw [← hp] at hp3 ⊢
  clear hy3 hp
  have HB3 := Lib.hid (HB2.out.trans (hb3.mono HB2.out.size))
  have hr3 := (hb3.block _ hlt2).trans HR2.out
  have hlt3 := lt_heap hr3
  have HR3 := Lib.hid hr3
  clear hr3
  have HP3 := Lib.hid hp3
  have q0 := cell_of_row _ _ 0 _ _ _ hp3
  have q1 := cell_of_row _ _ 1 _ _ _ hp3
  simp at q0 q1
  have hltp := lt_heap hp3
  clear hb3 hp3 hlt2
  go_upto_region 7 with (go_at_call 48; refine (szright_t (m : Int) (m2 : Int) HOK.out _).mono ?_; rintro e y4 ⟨rfl, hb4⟩)
  have HB4 := Lib.hid (HB3.out.trans (hb4.mono HB3.out.size))
  have hr4 := (hb4.block _ hlt3).trans HR3.out
  have hlt4 := lt_heap hr4
  have HR4 := Lib.hid hr4
  clear hr4
  have HL4 := Lib.hid (HL3.out.on hb4)
  have hp4 := (hb4.block _ hltp).trans HP3.out
  have hltp4 := lt_heap hp4
  have HP4 := Lib.hid hp4
  clear hb4 q0 q1 hp4 hltp
  go_wp2_with fail
  refine (without_yes a2 n2 c2_ r2 [50, 53, 53, 10] 4 y4 HL4.out rfl (by have := HL4.out.1; omega) (by omega) (by omega) hn2 hd).mono ?_
  rintro e y5 ⟨⟨a5, rfl, hB5⟩, rfl⟩
  have HL5 := Lib.hid hB5
  clear hB5
  obtain ⟨n5, hn5⟩ : ∃ n5, n5 = n2 - 4 := ⟨_, rfl⟩
  rw [← hn5] at HL5 ⊢
  have HN5 := Lib.hid hn5
  have hn5b : n5 ≤ 140737488351232 := by omega
  clear hn5
  obtain ⟨M, hM⟩ : ∃ M : Int, M = (m : Int) * (m2 : Int) := ⟨_, rfl⟩
  have HMM := Lib.hid hM
  have hM1 : 1 ≤ M := by have := (Fm.okSz_mul HOK.out).1; omega
  have hM2 : M ≤ 4096 := by have := (Fm.okSz_mul HOK.out).2; omega
  clear hM
  have q0 := cell_of_row _ _ 0 _ _ _ HP4.out
  have q1 := cell_of_row _ _ 1 _ _ _ HP4.out
  simp at q0 q1
  go_wp2_with fail
  refine ((show Calls _ _ _ _ (fun e w' => e = .returned (.int .i64 M) ∧ Below _ _ w') from by rw [HMM.out]; exact Fm.pix_ok (m : Int) (m2 : Int) HOK.out _)).mono ?_
  rintro e y6 ⟨rfl, hb6⟩
  have HB6 := Lib.hid (HB4.out.trans (hb6.mono HB4.out.size))
  have hr6 := (hb6.block _ hlt4).trans HR4.out
  have hlt6 := lt_heap hr6
  have HR6 := Lib.hid hr6
  clear hr6
  have HL6 := Lib.hid (HL5.out.on hb6)
  clear hb6 q0 q1
  have hlt : (n5 : Int) < 3 * M := by have := HL3x.out; have := HN5.out; have := HL4.out.1; rw [HMM.out]; omega
  have c0 := cell_of_row _ _ 0 _ _ _ HR6.out
  have c1 := cell_of_row _ _ 1 _ _ _ HR6.out
  have c2 := cell_of_row _ _ 2 _ _ _ HR6.out
  simp at c0 c1 c2
  have hf : ∀ j, y6.frozen? ⟨r, j, none⟩ = false := fun j => by simp [World.frozen?, HR6.out]
  have hf0 := hf 0
  have hf1 := hf 1
  have hf2 := hf 2
  clear hf
  go_wp2
  have hN := setRow_heap y6 r _ #[.int .i64 0, .int .i64 0, .slice none 0 0] _ _ HR6.out
  have HBN := Lib.hid (below_setRow (g := r) HB6.out hwr #[.int .i64 0, .int .i64 0, .slice none 0 0])
  rw [part3r HR6.out (.int .i64 0) (.int .i64 0) (.slice none 0 0)]
  exact bodyPost_ret (v := .tuple #[.agg #[.int .i64 0, .int .i64 0, .slice none 0 0], .int .i64 9]) (results_row2 (t := 44) Tryd.results23 rfl rfl hN Tryd.underlying44 rfl HI.out) rfl ⟨rfl, HBN.out⟩

set_option maxHeartbeats 1000000 in
set_option maxRecDepth 100000 in
theorem decode_many (a : Option Addr) (n c : Nat) (l : List UInt8) (w : World) (hl : BA w a n c l) (hn : n ≤ 140737488351232) (h3 : 3 ≤ n) (hm : l.take 3 = [80, 54, 10]) (m m2 : Nat) (r1 r2 : List UInt8) (hs : sideR 0 0 (l.drop 3) 32 = some (m, r1)) (hs2 : sideR 0 0 r1 10 = some (m2, r2)) (hok : Fm.okSz (m : Int) (m2 : Int)) (h4 : 4 ≤ r2.length) (hd : r2.take 4 = [50, 53, 53, 10]) (hl3 : 3 * ((m : Int) * (m2 : Int)) < ((r2.length - 4 : Nat) : Int)) : Calls Tryd.prog 23 #[.slice a n c] w fun e' w' => e' = .returned (.tuple #[.agg #[.int .i64 0, .int .i64 0, .slice none 0 0], .int .i64 10]) ∧ Below w.heap.size w w' := by
  have HL := Lib.hid hl
  have HLN := Lib.hid hl.1
  clear hl
  go_enter Tryd.func23, Tryd.ntmps23
  go_upto_region 1 with fail
  have hr0 := heap_alloc_last w (.cells #[.int .i64 0, .int .i64 0, .slice none 0 0] 44)
  have hb0 := Ve.below_n1 w (.cells #[.int .i64 0, .int .i64 0, .slice none 0 0] 44)
  obtain ⟨y0, hy0⟩ : ∃ y0, w.alloc (.cells #[.int .i64 0, .int .i64 0, .slice none 0 0] 44) = y0 := ⟨_, rfl⟩
  obtain ⟨r, hr⟩ : ∃ r, r = w.heap.size := ⟨_, rfl⟩
  rw [hy0] at hr0 hb0 ⊢
  rw [← hr] at hr0 ⊢
  have hwr : w.heap.size ≤ r := by omega
  clear hy0 hr
  have HB0 := Lib.hid hb0
  have HL0 := Lib.hid (HL.out.on hb0)
  have hlt0 := lt_heap hr0
  have HR0 := Lib.hid hr0
  have HI := Lib.hid (show (Tryd.prog.info? 44).map (·.size) = some 3 by kernel_rfl)
  clear hb0 hr0
  have HOK := Lib.hid hok
  clear hok
  have HL3x := Lib.hid hl3
  clear hl3
  go_wp2_with fail
  refine (without_yes a n c l [80, 54, 10] 3 y0 HL0.out rfl h3 (by omega) (by omega) hn hm).mono ?_
  rintro e y1 ⟨⟨a1, rfl, hB1⟩, rfl⟩
  have HL1 := Lib.hid hB1
  clear hB1
  go_wp2_with fail
  refine (size_yes a1 (n - 3) (c - 3) (l.drop 3) y0 HL1.out (by omega) m m2 r1 r2 hs hs2).mono ?_
  rintro e y2 ⟨⟨a2, n2, c2_, rfl, hB2⟩, hb2⟩
  have HL2 := Lib.hid (hB2 y2 (HL1.out.on hb2))
  have hn2 : n2 ≤ 140737488351232 := by
    have q0 := (hB2 y2 (HL1.out.on hb2)).1
    have q1 := side_len (by decide) hs
    have q2 := side_len (by decide) hs2
    rw [List.length_drop] at q1
    have q3 := HLN.out
    omega
  have HB2 := Lib.hid (HB0.out.trans (hb2.mono HB0.out.size))
  have hr2 := (hb2.block _ hlt0).trans HR0.out
  have hlt2 := lt_heap hr2
  have HR2 := Lib.hid hr2
  clear hr2
  have hb3 := Ve.below_n1 y2 (.cells #[.int .i64 m, .int .i64 m2] 33)
  have hp3 := heap_alloc_last y2 (.cells #[.int .i64 m, .int .i64 m2] 33)
  have HL3 := Lib.hid (HL2.out.on hb3)
  clear hB2 hb2
  go_upto_region 5 with fail
  obtain ⟨y3, hy3⟩ : ∃ y3, y2.alloc (.cells #[.int .i64 m, .int .i64 m2] 33) = y3 := ⟨_, rfl⟩
  obtain ⟨p, hp⟩ : ∃ p, p = y2.heap.size := ⟨_, rfl⟩
  rw [hy3] at hb3 hp3 HL3 ⊢
  rw [← hp] at hp3 ⊢
  clear hy3 hp
  have HB3 := Lib.hid (HB2.out.trans (hb3.mono HB2.out.size))
  have hr3 := (hb3.block _ hlt2).trans HR2.out
  have hlt3 := lt_heap hr3
  have HR3 := Lib.hid hr3
  clear hr3
  have HP3 := Lib.hid hp3
  have q0 := cell_of_row _ _ 0 _ _ _ hp3
  have q1 := cell_of_row _ _ 1 _ _ _ hp3
  simp at q0 q1
  have hltp := lt_heap hp3
  clear hb3 hp3 hlt2
  go_upto_region 7 with (go_at_call 48; refine (szright_t (m : Int) (m2 : Int) HOK.out _).mono ?_; rintro e y4 ⟨rfl, hb4⟩)
  have HB4 := Lib.hid (HB3.out.trans (hb4.mono HB3.out.size))
  have hr4 := (hb4.block _ hlt3).trans HR3.out
  have hlt4 := lt_heap hr4
  have HR4 := Lib.hid hr4
  clear hr4
  have HL4 := Lib.hid (HL3.out.on hb4)
  have hp4 := (hb4.block _ hltp).trans HP3.out
  have hltp4 := lt_heap hp4
  have HP4 := Lib.hid hp4
  clear hb4 q0 q1 hp4 hltp
  go_wp2_with fail
  refine (without_yes a2 n2 c2_ r2 [50, 53, 53, 10] 4 y4 HL4.out rfl (by have := HL4.out.1; omega) (by omega) (by omega) hn2 hd).mono ?_
  rintro e y5 ⟨⟨a5, rfl, hB5⟩, rfl⟩
  have HL5 := Lib.hid hB5
  clear hB5
  obtain ⟨n5, hn5⟩ : ∃ n5, n5 = n2 - 4 := ⟨_, rfl⟩
  rw [← hn5] at HL5 ⊢
  have HN5 := Lib.hid hn5
  have hn5b : n5 ≤ 140737488351232 := by omega
  clear hn5
  obtain ⟨M, hM⟩ : ∃ M : Int, M = (m : Int) * (m2 : Int) := ⟨_, rfl⟩
  have HMM := Lib.hid hM
  have hM1 : 1 ≤ M := by have := (Fm.okSz_mul HOK.out).1; omega
  have hM2 : M ≤ 4096 := by have := (Fm.okSz_mul HOK.out).2; omega
  clear hM
  have q0 := cell_of_row _ _ 0 _ _ _ HP4.out
  have q1 := cell_of_row _ _ 1 _ _ _ HP4.out
  simp at q0 q1
  go_wp2_with fail
  refine ((show Calls _ _ _ _ (fun e w' => e = .returned (.int .i64 M) ∧ Below _ _ w') from by rw [HMM.out]; exact Fm.pix_ok (m : Int) (m2 : Int) HOK.out _)).mono ?_
  rintro e y6 ⟨rfl, hb6⟩
  have HB6 := Lib.hid (HB4.out.trans (hb6.mono HB4.out.size))
  have hr6 := (hb6.block _ hlt4).trans HR4.out
  have hlt6 := lt_heap hr6
  have HR6 := Lib.hid hr6
  clear hr6
  have HL6 := Lib.hid (HL5.out.on hb6)
  clear hb6 q0 q1
  have hlt : 3 * M < (n5 : Int) := by have := HL3x.out; have := HN5.out; have := HL4.out.1; rw [HMM.out]; omega
  have hlt' : ¬ (n5 : Int) < 3 * M := by omega
  have c0 := cell_of_row _ _ 0 _ _ _ HR6.out
  have c1 := cell_of_row _ _ 1 _ _ _ HR6.out
  have c2 := cell_of_row _ _ 2 _ _ _ HR6.out
  simp at c0 c1 c2
  have hf : ∀ j, y6.frozen? ⟨r, j, none⟩ = false := fun j => by simp [World.frozen?, HR6.out]
  have hf0 := hf 0
  have hf1 := hf 1
  have hf2 := hf 2
  clear hf
  go_wp2
  have hN := setRow_heap y6 r _ #[.int .i64 0, .int .i64 0, .slice none 0 0] _ _ HR6.out
  have HBN := Lib.hid (below_setRow (g := r) HB6.out hwr #[.int .i64 0, .int .i64 0, .slice none 0 0])
  rw [part3r HR6.out (.int .i64 0) (.int .i64 0) (.slice none 0 0)]
  exact bodyPost_ret (v := .tuple #[.agg #[.int .i64 0, .int .i64 0, .slice none 0 0], .int .i64 10]) (results_row2 (t := 44) Tryd.results23 rfl rfl hN Tryd.underlying44 rfl HI.out) rfl ⟨rfl, HBN.out⟩

end Go.Proofs.YtcohehekkeeeoaaDoor.Pg
