/- Layer 7: a whole row of cells, stored into a block: laws for the walk. -/
import Derived.Test.YtfbppiamlolfpaaC02
import Derived.Test.YtfbppiamlolfpaaC09
import Derived.Laws.CopyOwn
import Derived.Deep.DeepCutAuto
import Derived.Shelf.Strconv.Itoa0
namespace Go.Proofs.Ytfbppiamlolfpaa.Re
open Go.RowKit Go.Proofs.Ytfbppiamlolfpaa

section
variable {P : Program}

/-- a whole row of cells into the block that was made last -/
theorem wpList_store_new {ops : Array Oper} {rest : List Oper} {op : Oper} {a : Act} {Q : Exit → Act → World → Prop} (hgd : op.guard = none) (ty : TypeId) (x y : Operand) (ho : op.op = .store ty x y)
    (w : World) (c c' : Array Value) (b : Nat) (hb : b = w.heap.size) (hx : a.eval x = .pointer (some ⟨b, 0, none⟩)) (hy : a.eval y = .agg c')
    (hi : (P.info? ty).map (·.size) = some c'.size) (hc : c.size = c'.size) (h1 : c'.all (·.oneCell') = true)
    (h : wpList P ops Q rest (a.put op.dst undef) (w.alloc (.cells c' ty))) : wpList P ops Q (op :: rest) a (w.alloc (.cells c ty)) := by
  subst hb
  refine wpList_plain hgd fun _ hK => ?_
  unfold Oper.wp execOp
  simp only [ho, hx, hy, run_storeAt_new w ty c c' hi hc h1, Sem.run_bind, Sem.run_pure, Result.andThen_ok]
  exact hK _ _ h

/-- a whole row of cells into a block that is known whole -/
theorem wpList_store_row {ops : Array Oper} {rest : List Oper} {op : Oper} {a : Act} {Q : Exit → Act → World → Prop} (hgd : op.guard = none) (ty : TypeId) (x y : Operand) (ho : op.op = .store ty x y)
    (w : World) (c c' : Array Value) (b : Nat) (t : TypeId) (hb : w.heap[b]? = some (.cells c t (0, 0))) (hx : a.eval x = .pointer (some ⟨b, 0, none⟩)) (hy : a.eval y = .agg c')
    (hi : (P.info? ty).map (·.size) = some c'.size) (hc : c.size = c'.size) (h1 : c'.all (·.oneCell') = true)
    (h : wpList P ops Q rest (a.put op.dst undef) (w.setRow b c')) : wpList P ops Q (op :: rest) a w := by
  refine wpList_plain hgd fun _ hK => ?_
  have hs : (Instr.storeAt ty (.pointer (some ⟨b, 0, none⟩)) (.agg c')).run P w = .ok () (w.setRow b c') := by
    simp only [Instr.storeAt, Instr.sureAddr, Sem.run_bind, Sem.run_pure, Result.andThen]
    exact run_storeVar_row w b t ty c c' hb hi hc h1
  unfold Oper.wp execOp
  simp only [ho, hx, hy, hs, Sem.run_bind, Sem.run_pure, Result.andThen_ok]
  exact hK _ _ h
end
end Go.Proofs.Ytfbppiamlolfpaa.Re

/- Layer 7: the contract of a reader's sum. -/
namespace Go.Proofs.Ytfbppiamlolfpaa.Re
open Go.RowKit Go.Proofs.Ytfbppiamlolfpaa Go.Proofs.Ytfbppiamlolfpaa.Rp

abbrev Z32 : Array Value := #[.int .u8 0, .int .u8 0, .int .u8 0, .int .u8 0, .int .u8 0, .int .u8 0, .int .u8 0, .int .u8 0, .int .u8 0, .int .u8 0, .int .u8 0, .int .u8 0, .int .u8 0, .int .u8 0, .int .u8 0, .int .u8 0, .int .u8 0, .int .u8 0, .int .u8 0, .int .u8 0, .int .u8 0, .int .u8 0, .int .u8 0, .int .u8 0, .int .u8 0, .int .u8 0, .int .u8 0, .int .u8 0, .int .u8 0, .int .u8 0, .int .u8 0, .int .u8 0]

theorem z32_vals : Z32 = (vals (List.replicate 32 0)).toArray := rfl


theorem takeS_all (s : St) (n : Nat) : (takeS s n).1 = [] ∨ (takeS s n).1.length = n := by
  unfold takeS
  split
  · exact .inl rfl
  · split
    · exact .inl rfl
    · right; simp; omega

theorem sum_cells (s : St) : splice (vals (List.replicate 32 0)) 0 (vals (takeS s 32).1) = vals (sumS s).1 := by
  rcases takeS_all s 32 with h | h
  · unfold sumS; rw [if_pos h, h]; simp [splice, vals]
  · have hn : (takeS s 32).1 ≠ [] := fun e => by rw [e] at h; simp at h
    unfold sumS; rw [if_neg hn]
    unfold splice
    rw [List.take_zero, List.nil_append, vals_length, h, List.drop_eq_nil_of_le (by rw [vals_length]; simp), List.append_nil]

theorem sumS_len (s : St) : (sumS s).1.length = 32 := by
  unfold sumS
  rcases takeS_all s 32 with h | h
  · rw [if_pos h]; simp
  · rw [if_neg (fun e => by rw [e] at h; simp at h)]; exact h

theorem vals_all (l : List UInt8) : (vals l).toArray.all (·.oneCell') = true := all_oneCell_toArray (vals_one l)

theorem Aft.thenBelow {g base D : Nat} {a w w' : World} (h : Aft g base a w) (hb : Below D w w') (hD : a.heap.size ≤ D) : Aft g base a w' :=
  ⟨hb.os.trans h.os, hb.tape.trans h.tape, hb.output.trans h.output, Nat.le_trans h.size hb.size, fun k h1 h2 h3 => (hb.block k (by omega)).trans (h.block k h1 h2 h3),
    fun k cs t fr h1 h2 h3 => by
      have := lt_of_heap h3
      exact (hb.block k (by omega)).trans (h.other k cs t fr h1 h2 h3)⟩

end Go.Proofs.Ytfbppiamlolfpaa.Re

/- Layer 7: the contract of a reader's end. -/
namespace Go.Proofs.Ytfbppiamlolfpaa.Re
open Go.RowKit Go.Proofs.Ytfbppiamlolfpaa Go.Proofs.Ytfbppiamlolfpaa.Rp

theorem end_any (p : Value) (g : Nat) {B : Nat} (s : St) (w : World) (h : RP p g B s w) :
    Calls Try.prog 40 #[p] w fun e w' => e = .returned (.int .i64 (endS s).2) ∧ RP p g B (endS s) w' ∧ Aft g w.heap.size w w' := by
  by_cases hl : 0 < leftS s
  · have HE := Lib.hid (show endS s = failS s 10 by unfold endS; rw [if_pos hl])
    go_enter Try.func40, Try.ntmps40
    go_wp2_with (go_at_call 77; refine (left_any _ g s _ h).mono ?_; rintro e w9 ⟨rfl, rfl⟩)
    refine (fail_any p g s 10 _ h).mono ?_
    rintro e w1 ⟨rfl, hr, ha⟩
    go_wp2_with (go_at_call 79; refine (err_any _ g _ _ hr).mono ?_; rintro e w8 ⟨rfl, rfl⟩)
    go_ret
    exact ⟨by rw [HE.out]; rfl, by rw [HE.out]; exact hr, ha⟩
  · have HE := Lib.hid (show endS s = s by unfold endS; rw [if_neg hl])
    go_enter Try.func40, Try.ntmps40
    go_wp2_with (first | (go_at_call 77; refine (left_any _ g s _ h).mono ?_; rintro e w9 ⟨rfl, rfl⟩) | (go_at_call 79; refine (err_any _ g s _ h).mono ?_; rintro e w8 ⟨rfl, rfl⟩))
    go_ret
    exact ⟨by rw [HE.out]; rfl, by rw [HE.out]; exact h, Aft.refl _ _ _⟩

end Go.Proofs.Ytfbppiamlolfpaa.Re
