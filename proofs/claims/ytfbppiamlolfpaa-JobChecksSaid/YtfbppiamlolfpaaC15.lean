/- The contracts of layer 2's functions on points, number by number. -/
import Derived.Test.YtfbppiamlolfpaaC14
import Derived.ChangeKeysEq
import Derived.OwnWalk
import Derived.Deep.MidRow
import Derived.Laws.CopyOwn
import Derived.Deep.DeepCutAuto
import Derived.Deep.RegionHeld3
import Derived.Deep.WholeRow
import Derived.StillTailTactics
import Derived.Laws.Rows
namespace Go.Proofs.Ytfbppiamlolfpaa.Ve
open Go.RowKit Go.Proofs.Ytfbppiamlolfpaa Go.Proofs.Ytfbppiamlolfpaa.Wa

theorem vsub_any (ax ay az bx by_ bz : Int) (w : World) :
    Calls Try.prog 121 #[V3 ax ay az, V3 bx by_ bz] w fun e w' => e = .returned (V3 (Pl.sub ax bx) (Pl.sub ay by_) (Pl.sub az bz)) ∧ Below w.heap.size w w' := by
  go_enter Try.func121, Try.ntmps121
  go_wp2_with fail
  refine (each_sub _ _ _ _ _ _ _).mono ?_
  rintro e w1 ⟨rfl, hb⟩
  obtain ⟨hc, hf⟩ := bcell hb
  have hz := hb.size
  simp at hz
  go_wp2
  exact bodyPost_ret (v := V3 (Pl.sub ax bx) (Pl.sub ay by_) (Pl.sub az bz)) (by simp [results, Try.results121, go_sem, hc]) rfl ⟨rfl, below_put3 (below_c3 hb) (by omega) _ _ _⟩

theorem vneg_any (ax ay az : Int) (w : World) :
    Calls Try.prog 95 #[V3 ax ay az] w fun e w' => e = .returned (V3 (Pl.sub 0 ax) (Pl.sub 0 ay) (Pl.sub 0 az)) ∧ Below w.heap.size w w' := by
  go_enter Try.func95, Try.ntmps95
  go_wp2_with fail
  refine (vsub_any _ _ _ _ _ _ _).mono ?_
  rintro e w1 ⟨rfl, hb⟩
  obtain ⟨hc, hf⟩ := bcell hb
  have hz := hb.size
  simp at hz
  go_wp2
  exact bodyPost_ret (v := V3 (Pl.sub 0 ax) (Pl.sub 0 ay) (Pl.sub 0 az)) (by simp [results, Try.results95, go_sem, hc]) rfl ⟨rfl, below_put3 (below_c2 hb) (by omega) _ _ _⟩

theorem new_any (ax ay az : Int) (w : World) :
    Calls Try.prog 94 #[.int .i64 ax, .int .i64 ay, .int .i64 az] w fun e w' => e = .returned (V3 ax ay az) ∧ Below w.heap.size w w' := by
  go_enter Try.func94, Try.ntmps94
  go_wp2
  exact bodyPost_ret (v := V3 ax ay az) (by simp [results, Try.results94, go_sem]) rfl ⟨rfl, below_n1 _ _⟩

theorem to_any (ax ay az : Int) (w : World) :
    Calls Try.prog 26 #[V3 ax ay az] w fun e w' => e = .returned (V3 ax ay az) ∧ Below w.heap.size w w' := by
  go_enter Try.func26, Try.ntmps26
  go_wp2
  exact bodyPost_ret (v := V3 ax ay az) (by simp [results, Try.results26, go_sem]) rfl ⟨rfl, below_n2 _ _ _⟩

theorem from_any (ax ay az : Int) (w : World) :
    Calls Try.prog 85 #[V3 ax ay az] w fun e w' => e = .returned (V3 ax ay az) ∧ Below w.heap.size w w' := by
  go_enter Try.func85, Try.ntmps85
  go_wp2
  exact bodyPost_ret (v := V3 ax ay az) (by simp [results, Try.results85, go_sem]) rfl ⟨rfl, below_n2 _ _ _⟩

theorem mix_any (ax ay az bx by_ bz t : Int) (w : World) :
    Calls Try.prog 152 #[V3 ax ay az, V3 bx by_ bz, .int .i64 t] w fun e w' => e = .returned (V3 (Pl.lerp ax bx t) (Pl.lerp ay by_ t) (Pl.lerp az bz t)) ∧ Below w.heap.size w w' := by
  have hmf : ∀ (fn : Fn) (first cap : Array Value) (w : World), (Instr.makeFunc fn first cap).run Try.prog w = .ok (.func fn first cap) w := fun _ _ _ _ => rfl
  go_enter Try.func152, Try.ntmps152
  go_wp2_with fail
  refine (each_mix _ _ _ _ _ _ t _ _ (by simp) (by go_simp)).mono ?_
  rintro e w1 ⟨rfl, hb⟩
  obtain ⟨hc, hf⟩ := bcell hb
  have hz := hb.size
  simp at hz
  go_wp2
  exact bodyPost_ret (v := V3 (Pl.lerp ax bx t) (Pl.lerp ay by_ t) (Pl.lerp az bz t)) (by simp [results, Try.results152, go_sem, hc]) rfl ⟨rfl, below_put3 (below_c4 hb) (by omega) _ _ _⟩

end Go.Proofs.Ytfbppiamlolfpaa.Ve

/- What the laws' walks over points share: the points that came in, behind calls and new variables. -/
namespace Go.Proofs.Ytfbppiamlolfpaa.Ve
open Go.RowKit Go.Proofs.Ytfbppiamlolfpaa Go.Proofs.Ytfbppiamlolfpaa.Wa

theorem old1 {w : World} {k j : Nat} {v : Value} (o1 : Obj) (hk : k < w.heap.size) (h : w.cell? ⟨k, j, none⟩ = some v) : (w.alloc o1).cell? ⟨k, j, none⟩ = some v := by
  rw [World.cell?_alloc_past _ _ _ hk]; exact h

theorem old2 {w : World} {k j : Nat} {v : Value} (o1 o2 : Obj) (hk : k < w.heap.size) (h : w.cell? ⟨k, j, none⟩ = some v) : ((w.alloc o1).alloc o2).cell? ⟨k, j, none⟩ = some v :=
  old1 o2 (by simp; omega) (old1 o1 hk h)

theorem infoInt : (Try.prog.info? 2).map (fun i => (i.zero, i.size, i.bytes)) = some (some (.int .i64 0), 1, 8) := by kernel_rfl

theorem cellsInt : Try.prog.cellsOf 2 = 1 := by kernel_rfl

theorem eq_v3 (x y z : Int) (W : World) : (Op.equalIn 10000 80 (.agg #[.int .i64 x, .int .i64 y, .int .i64 z]) (.agg #[.int .i64 x, .int .i64 y, .int .i64 z])).run Try.prog W = .ok true W := by
  obtain ⟨i0, hi, hz0, hz1, hz2⟩ := info_parts infoInt
  rw [run_equalIn_array W 9999 _ _ Try.underlying80 hi, cellsInt]
  simp only [show List.range 3 = [0, 1, 2] from rfl, Op.eqItems, Sem.run_bind]
  simp [go_sem]

theorem held_on {W w9 : World} {p : Addr} {v : Value} (hbn : Below W.heap.size W w9) (h : W.cell? p = some v) : w9.cell? p = some v :=
  (hbn.cell (World.block_lt_of_cell? _ _ h)).trans h

theorem to_exact (ax ay az : Int) (w : World) :
    Calls Try.prog 26 #[V3 ax ay az] w fun e w' => e = .returned (V3 ax ay az) ∧ w' = (w.alloc (.cells #[.int .i64 ax, .int .i64 ay, .int .i64 az] 80)).alloc (.cells #[.int .i64 ax, .int .i64 ay, .int .i64 az] 73) := by
  go_enter Try.func26, Try.ntmps26
  go_wp2
  exact bodyPost_ret (v := V3 ax ay az) (by simp [results, Try.results26, go_sem]) rfl ⟨rfl, rfl⟩

end Go.Proofs.Ytfbppiamlolfpaa.Ve

/- What the contracts written by program share: rows of cells, kept whole. -/
namespace Go.Proofs.Ytfbppiamlolfpaa.Au
open Go.RowKit Go.Proofs.Ytfbppiamlolfpaa Go.Proofs.Ytfbppiamlolfpaa.Wa Go.Proofs.Ytfbppiamlolfpaa.Ve

section
variable {P : Program}
theorem step_store_row {ops : Array Oper} {o : Oper} {a : Act} {w : World} {K : Act → World → Prop} {Q : Exit → Act → World → Prop} {E : Prop} (hgd : o.guard = none) (ty : TypeId) (x y : Operand) (ho : o.op = .store ty x y)
    (c c' : Array Value) (b : Nat) (t : TypeId) (hb : w.heap[b]? = some (.cells c t (0, 0))) (hx : a.eval x = .pointer (some ⟨b, 0, none⟩)) (hy : a.eval y = .agg c')
    (hi : (P.info? ty).map (·.size) = some c'.size) (hc : c.size = c'.size) (h1 : c'.all (·.oneCell') = true)
    (h : K (a.put o.dst undef) (w.setRow b c')) : if Region.wanted o (yielded ops a.tmps) = true then Oper.wp P o a w K Q else E := by
  have hw : Region.wanted o (yielded ops a.tmps) = true := by simp [Region.wanted, hgd]
  rw [if_pos hw]
  have hs : (Instr.storeAt ty (.pointer (some ⟨b, 0, none⟩)) (.agg c')).run P w = .ok () (w.setRow b c') := by
    simp only [Instr.storeAt, Instr.sureAddr, Sem.run_bind, Sem.run_pure, Result.andThen]
    exact run_storeVar_row w b t ty c c' hb hi hc h1
  unfold Oper.wp execOp
  simp only [ho, hx, hy, hs, Sem.run_bind, Sem.run_pure, Result.andThen_ok]
  exact h
end

theorem lt_heap {w : World} {k : Nat} {x : Obj} (h : w.heap[k]? = some x) : k < w.heap.size := by
  rcases Nat.lt_or_ge k w.heap.size with h' | h'
  · exact h'
  · rw [Array.getElem?_eq_none h'] at h; cases h

section
variable {P : Program}
/-- a whole row of cells into a block that is known whole -/
theorem wpList_store_row {ops : Array Oper} {rest : List Oper} {op : Oper} {a : Act} {Q : Exit → Act → World → Prop} (hgd : op.guard = none) (ty : TypeId) (x y : Operand) (ho : op.op = .store ty x y)
    (w : World) (c c' : Array Value) (b : Nat) (t : TypeId) (hb : w.heap[b]? = some (.cells c t (0, 0))) (hx : a.eval x = .pointer (some ⟨b, 0, none⟩)) (hy : a.eval y = .agg c')
    (hi : (P.info? ty).map (·.size) = some c'.size) (hc : c.size = c'.size) (h1 : c'.all (·.oneCell') = true)
    (h : wpList P ops Q rest (a.put op.dst undef) (w.setRow b c')) : wpList P ops Q (op :: rest) a w := by
  refine wpList_plain hgd fun _ hK => ?_
  have hs : (Instr.storeAt ty (.pointer (some ⟨b, 0, none⟩)) (.agg c')).run P w = .ok () (w.setRow b c') := by
    simp only [Instr.storeAt, Instr.sureAddr, Sem.run_bind, Sem.run_pure, Result.andThen]
    exact run_storeVar_row w b t ty c c' hb hi hc h1
  unfold Oper.wp execOp
  simp only [ho, hx, hy, hs, Sem.run_bind, Sem.run_pure, Result.andThen_ok]
  exact hK _ _ h
end

theorem part3 {w : World} {b o : Nat} {cs cs' : Array Value} {t : TypeId} (h : w.heap[b]? = some (.cells cs t (0, 0))) (x y z : Value) (he : ((cs.setIfInBounds o x).setIfInBounds (o + 1) y).setIfInBounds (o + 2) z = cs') :
    (((w.setCell ⟨b, o, none⟩ x).setCell ⟨b, o + 1, none⟩ y).setCell ⟨b, o + 2, none⟩ z).heap[b]? = some (.cells cs' t (0, 0)) := by
  rw [← he]
  exact heap_setCell_same _ _ _ _ _ _ (heap_setCell_same _ _ _ _ _ _ (heap_setCell_same _ _ _ _ _ _ h))

theorem put3_other {w : World} {b o k : Nat} (p q : Nat) (x y z : Value) (hk : k ≠ b) :
    (((w.setCell ⟨b, o, none⟩ x).setCell ⟨b, p, none⟩ y).setCell ⟨b, q, none⟩ z).heap[k]? = w.heap[k]? := by
  rw [Below.heap_setCell _ _ _ _ hk, Below.heap_setCell _ _ _ _ hk, Below.heap_setCell _ _ _ _ hk]

theorem below_put3o {B : Nat} {a w : World} (h : Below B a w) {k : Nat} (o : Nat) (hk : B ≤ k) (x y z : Value) : Below B a (((w.setCell ⟨k, o, none⟩ x).setCell ⟨k, o + 1, none⟩ y).setCell ⟨k, o + 2, none⟩ z) :=
  ((h.setCell hk x).setCell hk y).setCell hk z

/-- a slice of things of so many numbers each: none, or a part of a row whose cells are known -/
def RowU (c : Nat) (w : World) (v : Value) (n : Nat) (L : Nat → Int) : Prop :=
  (v = .slice none 0 0 ∧ n = 0) ∨ ∃ g o cap, v = .slice (some ⟨g, o, none⟩) n cap ∧ g < w.heap.size ∧ ∀ j, j < n * c → w.cell? ⟨g, o + j, none⟩ = some (.int .i64 (L j))

theorem RowU.on {c : Nat} {w w' : World} {v : Value} {n : Nat} {L : Nat → Int} (h : RowU c w v n L) (hb : Below w.heap.size w w') : RowU c w' v n L := by
  rcases h with h | ⟨g, o, cap, hv, hg, hp⟩
  · exact .inl h
  · exact .inr ⟨g, o, cap, hv, Nat.lt_of_lt_of_le hg hb.size, fun j hj => (hb.cell (p := ⟨g, o + j, none⟩) hg).trans (hp j hj)⟩

theorem rows1 (w : World) (o : Obj) : (w.alloc o).heap[w.heap.size]? = some o := heap_alloc_last w o

theorem old {w : World} {k : Nat} {x : Obj} (o : Obj) (h : w.heap[k]? = some x) : (w.alloc o).heap[k]? = some x := by
  have hk : k < w.heap.size := by
    rcases Nat.lt_or_ge k w.heap.size with h' | h'
    · exact h'
    · rw [Array.getElem?_eq_none h'] at h; cases h
  exact ((below_n1 w o).block k hk).trans h

theorem rows2 (w : World) (o p : Obj) : ((w.alloc o).alloc p).heap[w.heap.size]? = some o ∧ ((w.alloc o).alloc p).heap[w.heap.size + 1]? = some p :=
  ⟨old _ (rows1 w o), by have h := rows1 (w.alloc o) p; rwa [show (w.alloc o).heap.size = w.heap.size + 1 by simp] at h⟩

theorem rows3 (w : World) (o p q : Obj) : (((w.alloc o).alloc p).alloc q).heap[w.heap.size]? = some o ∧ (((w.alloc o).alloc p).alloc q).heap[w.heap.size + 1]? = some p ∧ (((w.alloc o).alloc p).alloc q).heap[w.heap.size + 1 + 1]? = some q :=
  ⟨old _ (rows2 w o p).1, old _ (rows2 w o p).2, by have h := rows1 ((w.alloc o).alloc p) q; rwa [show ((w.alloc o).alloc p).heap.size = w.heap.size + 1 + 1 by simp] at h⟩

theorem rows4 (w : World) (o p q r : Obj) : ((((w.alloc o).alloc p).alloc q).alloc r).heap[w.heap.size]? = some o ∧ ((((w.alloc o).alloc p).alloc q).alloc r).heap[w.heap.size + 1]? = some p ∧ ((((w.alloc o).alloc p).alloc q).alloc r).heap[w.heap.size + 1 + 1]? = some q ∧ ((((w.alloc o).alloc p).alloc q).alloc r).heap[w.heap.size + 1 + 1 + 1]? = some r :=
  ⟨old _ (rows3 w o p q).1, old _ (rows3 w o p q).2.1, old _ (rows3 w o p q).2.2, by have h := rows1 (((w.alloc o).alloc p).alloc q) r; rwa [show (((w.alloc o).alloc p).alloc q).heap.size = w.heap.size + 1 + 1 + 1 by simp] at h⟩

end Go.Proofs.Ytfbppiamlolfpaa.Au

/- Whole rows, loaded: among operations whose order is drawn, and where numbers lie one behind the other. No program in sight. -/
namespace Go.Proofs.Ytfbppiamlolfpaa.Lr
open Go
set_option linter.unusedVariables false

section
variable {P : Program}
theorem yieldsIf_load_row {ops : Array Oper} {S : World → Prop} {op : Oper} {a : Act} (hw : Region.wanted op (yielded ops a.tmps) = true) (ty : TypeId) (x : Operand) (ho : op.op = .load ty x)
    (b : Nat) (hx : a.eval x = .pointer (some ⟨b, 0, none⟩)) (t : TypeId) (cs : Array Value) (d : TypeDesc) (hS : ∀ w, S w → w.heap[b]? = some (.cells cs t (0, 0)))
    (hu : P.underlying ty = some d) (hd : (match d with | .struct _ | .array _ _ => true | _ => false) = true) (hi : (P.info? ty).map (·.size) = some cs.size) : YieldsIf P ops S op (.agg cs) a :=
  .inl ⟨hw, fun w hw' => by
    unfold execOp
    simp only [ho, hx, Instr.loadAt, Instr.sureAddr, Sem.run_bind, Sem.run_pure, Result.andThen_ok, run_loadVar_row w b t ty cs (0, 0) d (hS w hw') hu hd hi]⟩
end

theorem range_nums {w : World} {b o n : Nat} {L : Nat → Int} (h : ∀ j, j < n → w.cell? ⟨b, o + j, none⟩ = some (.int .i64 (L j))) : w.rangeAt b o ((List.range n).map fun j => .int .i64 (L j)) := by
  intro j v hv
  by_cases hj : j < n
  · simp [hj] at hv
    rw [h j hj, ← hv]
  · rw [List.getElem?_eq_none (by simp; omega)] at hv; cases hv

theorem range_row {w : World} {b : Nat} {t : TypeId} {cs : List Value} (h : w.heap[b]? = some (.cells cs.toArray t (0, 0))) : w.rangeAt b 0 cs := by
  intro j v hv
  rw [Nat.zero_add, cell_of_row _ _ j _ _ _ h]
  simpa using hv
end Go.Proofs.Ytfbppiamlolfpaa.Lr
