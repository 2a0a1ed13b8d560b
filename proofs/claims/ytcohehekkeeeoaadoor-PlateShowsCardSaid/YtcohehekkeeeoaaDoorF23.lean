/- Layer 21 (plate): a size, read off a file's head, by the program. -/
import Derived.Test.YtcohehekkeeeoaaDoorF22
namespace Go.Proofs.YtcohehekkeeeoaaDoor.Pg
open Go Go.RowKit Go.Proofs.YtcohehekkeeeoaaDoor Go.Proofs.YtcohehekkeeeoaaDoor.Re Go.Proofs.YtcohehekkeeeoaaDoor.Au
set_option linter.unusedVariables false
set_option linter.unusedSimpArgs false

theorem results_row2 {P : Program} {fn : Func} {tmps : Array Value} {a c : Nat} {ty t : TypeId} {b : Nat} {cs : Array Value} {d : TypeDesc} {w : World} {v : Value} (hf : fn.results = #[.cell a ty, .tmp c]) (hp : tmps.getD a undef = .pointer (some ⟨b, 0, none⟩)) (hv : tmps.getD c undef = v) (hg : w.heap[b]? = some (.cells cs t (0, 0)))
    (hu : P.underlying ty = some d) (hd : (match d with | .struct _ | .array _ _ => true | _ => false) = true) (hi : (P.info? ty).map (·.size) = some cs.size) : (results fn tmps).run P w = .ok (.tuple #[.agg cs, v]) w := by
  have hl := run_loadVar_row (P := P) w b t ty cs (0, 0) d hg hu hd hi
  unfold results
  rw [hf]
  simp only [List.mapM_toArray, List.mapM_cons, List.mapM_nil, Sem.run_bind, Sem.run_pure, hp, hv, asAddr, hl, Result.andThen_ok, Sem.run_map, bind_pure_comp, map_pure]
  simp

theorem results_row3 {P : Program} {fn : Func} {tmps : Array Value} {a c c2 : Nat} {ty t : TypeId} {b : Nat} {cs : Array Value} {d : TypeDesc} {w : World} {v v2 : Value} (hf : fn.results = #[.cell a ty, .tmp c, .tmp c2]) (hp : tmps.getD a undef = .pointer (some ⟨b, 0, none⟩)) (hv : tmps.getD c undef = v) (hv2 : tmps.getD c2 undef = v2) (hg : w.heap[b]? = some (.cells cs t (0, 0)))
    (hu : P.underlying ty = some d) (hd : (match d with | .struct _ | .array _ _ => true | _ => false) = true) (hi : (P.info? ty).map (·.size) = some cs.size) : (results fn tmps).run P w = .ok (.tuple #[.agg cs, v, v2]) w := by
  have hl := run_loadVar_row (P := P) w b t ty cs (0, 0) d hg hu hd hi
  unfold results
  rw [hf]
  simp only [List.mapM_toArray, List.mapM_cons, List.mapM_nil, Sem.run_bind, Sem.run_pure, hp, hv, hv2, asAddr, hl, Result.andThen_ok, Sem.run_map, bind_pure_comp, map_pure]
  simp

theorem part2 {w : World} {b : Nat} {p q : Value} {t : TypeId} (h : w.heap[b]? = some (.cells #[p, q] t (0, 0))) (x y : Value) : (w.setCell ⟨b, 0, none⟩ x).setCell ⟨b, 1, none⟩ y = w.setRow b #[x, y] := by
  rw [setCell_eq_setRow w b 0 _ t (0, 0) x h, setCell_eq_setRow _ b 1 _ t (0, 0) y (setRow_heap w b _ _ t _ h), setRow_setRow]
  rfl

theorem side_len {l : List UInt8} {m : Nat} {r : List UInt8} {e : UInt8} (he : e.toNat < 48) (h : sideR 0 0 l e = some (m, r)) : r.length < l.length := by
  have := (dec_side he h).1
  rw [this]
  simp
  omega

set_option maxHeartbeats 4000000 in
set_option maxRecDepth 100000 in
theorem size_no1 (a : Option Addr) (n c : Nat) (l : List UInt8) (w : World) (hl : BA w a n c l) (hn : n ≤ 140737488351232) (hs : sideR 0 0 l 32 = none) : Calls Tryd.prog 55 #[.slice a n c] w fun e' w' => e' = .returned (.tuple #[.agg #[.int .i64 0, .int .i64 0], .slice none 0 0, .bool false]) ∧ Below w.heap.size w w' := by
  have HL := Lib.hid hl
  clear hl
  go_enter Tryd.func55, Tryd.ntmps55
  go_upto_region 1 with fail
  have hr0 := heap_alloc_last w (.cells #[.int .i64 0, .int .i64 0] 33)
  have hb0 := Ve.below_n1 w (.cells #[.int .i64 0, .int .i64 0] 33)
  obtain ⟨y0, hy0⟩ : ∃ y0, w.alloc (.cells #[.int .i64 0, .int .i64 0] 33) = y0 := ⟨_, rfl⟩
  obtain ⟨r, hr⟩ : ∃ r, r = w.heap.size := ⟨_, rfl⟩
  rw [hy0] at hr0 hb0 ⊢
  rw [← hr] at hr0 ⊢
  have hwr : w.heap.size ≤ r := by omega
  clear hy0 hr
  have HB0 := Lib.hid hb0
  have HL0 := Lib.hid (HL.out.on hb0)
  have hlt0 := lt_heap hr0
  have HI := Lib.hid (show (Tryd.prog.info? 33).map (·.size) = some 2 by kernel_rfl)
  clear hb0
  go_wp2_with fail
  refine (side_any a n c l 32 32 y0 HL0.out rfl hn).mono ?_
  rintro e y1 ⟨hyes, hno, hb1⟩
  have hr1 := (hb1.block _ hlt0).trans hr0
  have hlt1 := lt_heap hr1
  have HB1 := Lib.hid (HB0.out.trans (hb1.mono HB0.out.size))
  obtain rfl := hno hs
  have HR := Lib.hid hr1
  clear hyes hno hb1 hr0 hr1
  have c0 := cell_of_row _ _ 0 _ _ _ HR.out
  have c1 := cell_of_row _ _ 1 _ _ _ HR.out
  simp at c0 c1
  have hf : ∀ j, y1.frozen? ⟨r, j, none⟩ = false := fun j => by simp [World.frozen?, HR.out]
  have hf0 := hf 0
  have hf1 := hf 1
  clear hf
  go_wp2
  have hN := setRow_heap y1 r _ #[.int .i64 0, .int .i64 0] _ _ HR.out
  have HBN := Lib.hid (below_setRow (g := r) HB1.out hwr #[.int .i64 0, .int .i64 0])
  rw [part2 HR.out (.int .i64 0) (.int .i64 0)]
  exact bodyPost_ret (v := .tuple #[.agg #[.int .i64 0, .int .i64 0], .slice none 0 0, .bool false]) (results_row3 (t := 33) Tryd.results55 rfl rfl rfl hN Tryd.underlying33 rfl HI.out) rfl ⟨rfl, HBN.out⟩

set_option maxHeartbeats 4000000 in
set_option maxRecDepth 100000 in
theorem size_no2 (a : Option Addr) (n c : Nat) (l : List UInt8) (w : World) (hl : BA w a n c l) (hn : n ≤ 140737488351232) (m : Nat) (r1 : List UInt8) (hs : sideR 0 0 l 32 = some (m, r1)) (hs2 : sideR 0 0 r1 10 = none) : Calls Tryd.prog 55 #[.slice a n c] w fun e' w' => (∃ A, e' = .returned (.tuple #[.agg A, .slice none 0 0, .bool false]) ∧ ∃ x y : Int, A = #[.int .i64 x, .int .i64 y]) ∧ Below w.heap.size w w' := by
  have HL := Lib.hid hl
  clear hl
  go_enter Tryd.func55, Tryd.ntmps55
  go_upto_region 1 with fail
  have hr0 := heap_alloc_last w (.cells #[.int .i64 0, .int .i64 0] 33)
  have hb0 := Ve.below_n1 w (.cells #[.int .i64 0, .int .i64 0] 33)
  obtain ⟨y0, hy0⟩ : ∃ y0, w.alloc (.cells #[.int .i64 0, .int .i64 0] 33) = y0 := ⟨_, rfl⟩
  obtain ⟨r, hr⟩ : ∃ r, r = w.heap.size := ⟨_, rfl⟩
  rw [hy0] at hr0 hb0 ⊢
  rw [← hr] at hr0 ⊢
  have hwr : w.heap.size ≤ r := by omega
  clear hy0 hr
  have HB0 := Lib.hid hb0
  have HL0 := Lib.hid (HL.out.on hb0)
  have hlt0 := lt_heap hr0
  have HI := Lib.hid (show (Tryd.prog.info? 33).map (·.size) = some 2 by kernel_rfl)
  clear hb0
  go_wp2_with fail
  refine (side_any a n c l 32 32 y0 HL0.out rfl hn).mono ?_
  rintro e y1 ⟨hyes, hno, hb1⟩
  have hr1 := (hb1.block _ hlt0).trans hr0
  have hlt1 := lt_heap hr1
  have HB1 := Lib.hid (HB0.out.trans (hb1.mono HB0.out.size))
  obtain ⟨a1, n1, c1, rfl, hB1⟩ := hyes m r1 hs
  have hn1 : n1 ≤ 140737488351232 := by
    have q1 := (hB1 w HL.out).1
    have q2 := HL.out.1
    have q3 := side_len (by decide) hs
    omega
  have HBA := Lib.hid (hB1 y1 (HL0.out.on hb1))
  clear hyes hno hb1 hr0
  have HBF := Lib.hid hB1
  have HR1 := Lib.hid hr1
  clear hB1 hr1
  go_wp2_with fail
  refine (side_any a1 n1 c1 r1 10 10 y1 HBA.out rfl hn1).mono ?_
  rintro e y2 ⟨hyes, hno, hb2⟩
  have HR := Lib.hid ((hb2.block _ hlt1).trans HR1.out)
  have HB2 := Lib.hid (HB1.out.trans (hb2.mono HB1.out.size))
  obtain rfl := hno hs2
  clear hyes hno hb2 HR1
  have c0 := cell_of_row _ _ 0 _ _ _ HR.out
  have c1 := cell_of_row _ _ 1 _ _ _ HR.out
  simp at c0 c1
  have hf : ∀ j, y2.frozen? ⟨r, j, none⟩ = false := fun j => by simp [World.frozen?, HR.out]
  have hf0 := hf 0
  have hf1 := hf 1
  clear hf
  go_wp2
  have hN := setRow_heap y2 r _ #[.int .i64 m, .int .i64 0] _ _ HR.out
  have HBN := Lib.hid (below_setRow (g := r) HB2.out hwr #[.int .i64 m, .int .i64 0])
  rw [part2 HR.out (.int .i64 m) (.int .i64 0)]
  exact bodyPost_ret (v := .tuple #[.agg #[.int .i64 m, .int .i64 0], .slice none 0 0, .bool false]) (results_row3 (t := 33) Tryd.results55 rfl rfl rfl hN Tryd.underlying33 rfl HI.out) rfl ⟨⟨_, rfl, _, _, rfl⟩, HBN.out⟩

set_option maxHeartbeats 4000000 in
set_option maxRecDepth 100000 in
theorem size_yes (a : Option Addr) (n c : Nat) (l : List UInt8) (w : World) (hl : BA w a n c l) (hn : n ≤ 140737488351232) (m m2 : Nat) (r1 r2 : List UInt8) (hs : sideR 0 0 l 32 = some (m, r1)) (hs2 : sideR 0 0 r1 10 = some (m2, r2)) : Calls Tryd.prog 55 #[.slice a n c] w fun e' w' => (∃ a' n' c', e' = .returned (.tuple #[.agg #[.int .i64 m, .int .i64 m2], .slice a' n' c', .bool true]) ∧ ∀ u, BA u a n c l → BA u a' n' c' r2) ∧ Below w.heap.size w w' := by
  have HL := Lib.hid hl
  clear hl
  go_enter Tryd.func55, Tryd.ntmps55
  go_upto_region 1 with fail
  have hr0 := heap_alloc_last w (.cells #[.int .i64 0, .int .i64 0] 33)
  have hb0 := Ve.below_n1 w (.cells #[.int .i64 0, .int .i64 0] 33)
  obtain ⟨y0, hy0⟩ : ∃ y0, w.alloc (.cells #[.int .i64 0, .int .i64 0] 33) = y0 := ⟨_, rfl⟩
  obtain ⟨r, hr⟩ : ∃ r, r = w.heap.size := ⟨_, rfl⟩
  rw [hy0] at hr0 hb0 ⊢
  rw [← hr] at hr0 ⊢
  have hwr : w.heap.size ≤ r := by omega
  clear hy0 hr
  have HB0 := Lib.hid hb0
  have HL0 := Lib.hid (HL.out.on hb0)
  have hlt0 := lt_heap hr0
  have HI := Lib.hid (show (Tryd.prog.info? 33).map (·.size) = some 2 by kernel_rfl)
  clear hb0
  go_wp2_with fail
  refine (side_any a n c l 32 32 y0 HL0.out rfl hn).mono ?_
  rintro e y1 ⟨hyes, hno, hb1⟩
  have hr1 := (hb1.block _ hlt0).trans hr0
  have hlt1 := lt_heap hr1
  have HB1 := Lib.hid (HB0.out.trans (hb1.mono HB0.out.size))
  obtain ⟨a1, n1, c1, rfl, hB1⟩ := hyes m r1 hs
  have hn1 : n1 ≤ 140737488351232 := by
    have q1 := (hB1 w HL.out).1
    have q2 := HL.out.1
    have q3 := side_len (by decide) hs
    omega
  have HBA := Lib.hid (hB1 y1 (HL0.out.on hb1))
  clear hyes hno hb1 hr0
  have HBF := Lib.hid hB1
  have HR1 := Lib.hid hr1
  clear hB1 hr1
  go_wp2_with fail
  refine (side_any a1 n1 c1 r1 10 10 y1 HBA.out rfl hn1).mono ?_
  rintro e y2 ⟨hyes, hno, hb2⟩
  have HR := Lib.hid ((hb2.block _ hlt1).trans HR1.out)
  have HB2 := Lib.hid (HB1.out.trans (hb2.mono HB1.out.size))
  obtain ⟨a2, n2, c2, rfl, hB2⟩ := hyes m2 r2 hs2
  clear hyes hno hb2 HR1
  have HBB := Lib.hid hB2
  clear hB2
  have c0 := cell_of_row _ _ 0 _ _ _ HR.out
  have c1 := cell_of_row _ _ 1 _ _ _ HR.out
  simp at c0 c1
  have hf : ∀ j, y2.frozen? ⟨r, j, none⟩ = false := fun j => by simp [World.frozen?, HR.out]
  have hf0 := hf 0
  have hf1 := hf 1
  clear hf
  go_wp2
  have hN := setRow_heap y2 r _ #[.int .i64 m, .int .i64 m2] _ _ HR.out
  have HBN := Lib.hid (below_setRow (g := r) HB2.out hwr #[.int .i64 m, .int .i64 m2])
  rw [part2 HR.out (.int .i64 m) (.int .i64 m2)]
  exact bodyPost_ret (v := .tuple #[.agg #[.int .i64 m, .int .i64 m2], .slice a2 n2 c2, .bool true]) (results_row3 (t := 33) Tryd.results55 rfl rfl rfl hN Tryd.underlying33 rfl HI.out) rfl ⟨⟨_, _, _, rfl, fun z hz => HBB.out z (HBF.out z hz)⟩, HBN.out⟩

end Go.Proofs.YtcohehekkeeeoaaDoor.Pg
