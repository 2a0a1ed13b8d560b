/- Layer 7: the contracts of a writer's points, lights, sums, blobs, and of its bytes; the document's example. -/
import Derived.Test.YtgkfoiekminfmaaReb
namespace Go.Proofs.Ytgkfoiekminfmaa.Re
open Go.RowKit Go.Proofs.Ytgkfoiekminfmaa Go.Proofs.Ytgkfoiekminfmaa.Rp

abbrev V3 (x y z : Int) : Value := .agg #[.int .i64 x, .int .i64 y, .int .i64 z]

theorem to_any (ax ay az : Int) (w : World) : Calls Try.prog 30 #[V3 ax ay az] w fun e w' => e = .returned (V3 ax ay az) ∧ Below w.heap.size w w' := by
  go_enter Try.func30, Try.ntmps30
  go_wp2
  exact bodyPost_ret (v := V3 ax ay az) (by simp [results, Try.results30, go_sem]) rfl ⟨rfl, below_n2 _ _ _⟩

theorem from_any (ax ay az : Int) (w : World) : Calls Try.prog 50 #[V3 ax ay az] w fun e w' => e = .returned (V3 ax ay az) ∧ Below w.heap.size w w' := by
  go_enter Try.func50, Try.ntmps50
  go_wp2
  exact bodyPost_ret (v := V3 ax ay az) (by simp [results, Try.results50, go_sem]) rfl ⟨rfl, below_n2 _ _ _⟩

theorem hto_any (ax ay az : Int) (w : World) : Calls Try.prog 31 #[V3 ax ay az] w fun e w' => e = .returned (V3 ax ay az) ∧ Below w.heap.size w w' := by
  go_enter Try.func31, Try.ntmps31
  go_wp2
  exact bodyPost_ret (v := V3 ax ay az) (by simp [results, Try.results31, go_sem]) rfl ⟨rfl, below_n2 _ _ _⟩

theorem hfrom_any (ax ay az : Int) (w : World) : Calls Try.prog 49 #[V3 ax ay az] w fun e w' => e = .returned (V3 ax ay az) ∧ Below w.heap.size w w' := by
  go_enter Try.func49, Try.ntmps49
  go_wp2
  exact bodyPost_ret (v := V3 ax ay az) (by simp [results, Try.results49, go_sem]) rfl ⟨rfl, below_n2 _ _ _⟩

theorem heap_last2 (w : World) (o o2 : Obj) : ((w.alloc o).alloc o2).heap[w.heap.size + 1]? = some o2 := by
  have h := heap_alloc_last (w.alloc o) o2
  simpa using h

theorem three_cells (x y z : Int) : ∀ j, j < [x, y, z].length → (#[.int .i64 x, .int .i64 y, .int .i64 z] : Array Value)[j]? = some (.int .i64 ([x, y, z].getD j 0)) := by
  intro j hj
  match j, hj with
  | 0, _ => rfl
  | 1, _ => rfl
  | 2, _ => rfl

set_option maxHeartbeats 2000000 in
theorem vec_any (g : Nat) (S : Nat → Prop) (l : List UInt8) (b cap : Nat) (t : TypeId) (x y z : Int) (w : World) (hW : WAt g S l w) (hb : w.heap[b]? = some (.cells #[.int .i64 x, .int .i64 y, .int .i64 z] t)) (hS : S b) (hsz : l.length + 10000 ≤ 140737488355328) :
    Calls Try.prog 56 #[.pointer (some ⟨g, 0, none⟩), .slice (some ⟨b, 0, none⟩) 1 cap] w fun e w' => e = .returned (.tuple #[]) ∧ WAt g S (l ++ numsOf 5 [x, y, z]) w' ∧ Aw S w w' := by
  have HW := Lib.hid hW
  have HB := Lib.hid hb
  clear hW hb
  go_enter Try.func56, Try.ntmps56
  go_wp2_with fail
  go_loopw [8] (fun i wr => ∃ k : Nat, k ≤ 1 ∧ i = .int .i64 k ∧ Hid (WAt g S (l ++ numsOf 5 (if k = 0 then [] else [x, y, z])) wr) ∧ Aw S w wr) (fun i _ => 1 - (intOf i).toNat)
  case atStart => exact ⟨0, by omega, rfl, Lib.hid (by rw [if_pos rfl, numsOf_nil, List.append_nil]; exact HW.out), Aw.refl _ _⟩
  case round =>
    obtain ⟨k, hk, rfl, HI, hA⟩ := hrel
    by_cases hlt : k = 0
    · subst hlt
      replace HI := Lib.hid (show WAt g S l wr by have h := HI.out; rwa [if_pos rfl, numsOf_nil, List.append_nil] at h)
      have hbr := Lib.hid ((hA.block b hS (lt_of_heap HB.out)).trans HB.out)
      have c0 : wr.cell? ⟨b, 0, none⟩ = some (.int .i64 x) := cell_of_row wr b 0 _ _ _ hbr.out
      have c1 : wr.cell? ⟨b, 1, none⟩ = some (.int .i64 y) := cell_of_row wr b 1 _ _ _ hbr.out
      have c2 : wr.cell? ⟨b, 2, none⟩ = some (.int .i64 z) := cell_of_row wr b 2 _ _ _ hbr.out
      go_wp2_with fail
      refine (fix_list g (fun k => S k ∨ k = (wr.alloc (.cells #[.int .i64 x, .int .i64 y, .int .i64 z] 73)).heap.size) _ _ 3 [x, y, z] _ ((HI.out.on (below_n1 _ _)).push _) (Ints.cons [x, y, z] (heap_last2 _ _ _) (.inr (by simp)) (three_cells x y z)) (by simp) hsz).mono ?_
      rintro e w1 ⟨rfl, hw1, ha1⟩
      have HI2 := Lib.hid (hw1.weak fun k hk => .inl hk)
      have hA2 := ((hA.alloc _).alloc _).trans (ha1.weak fun k hk => .inl hk)
      clear hw1 ha1 c0 c1 c2
      go_wp2_with fail
      go_roundw
      case rel => exact ⟨1, by omega, by go_num, HI2, hA2⟩
      case measure => simp [intOf]
    · obtain rfl : k = 1 := by omega
      go_wp2
      go_end0
      exact ⟨rfl, by have h := HI.out; rw [if_neg (by omega)] at h; exact h, hA⟩

set_option maxHeartbeats 2000000 in
theorem hue_any (g : Nat) (S : Nat → Prop) (l : List UInt8) (b cap : Nat) (t : TypeId) (x y z : Int) (w : World) (hW : WAt g S l w) (hb : w.heap[b]? = some (.cells #[.int .i64 x, .int .i64 y, .int .i64 z] t)) (hS : S b) (hsz : l.length + 10000 ≤ 140737488355328) :
    Calls Try.prog 53 #[.pointer (some ⟨g, 0, none⟩), .slice (some ⟨b, 0, none⟩) 1 cap] w fun e w' => e = .returned (.tuple #[]) ∧ WAt g S (l ++ numsOf 5 [x, y, z]) w' ∧ Aw S w w' := by
  have HW := Lib.hid hW
  have HB := Lib.hid hb
  clear hW hb
  go_enter Try.func53, Try.ntmps53
  go_wp2_with fail
  go_loopw [8] (fun i wr => ∃ k : Nat, k ≤ 1 ∧ i = .int .i64 k ∧ Hid (WAt g S (l ++ numsOf 5 (if k = 0 then [] else [x, y, z])) wr) ∧ Aw S w wr) (fun i _ => 1 - (intOf i).toNat)
  case atStart => exact ⟨0, by omega, rfl, Lib.hid (by rw [if_pos rfl, numsOf_nil, List.append_nil]; exact HW.out), Aw.refl _ _⟩
  case round =>
    obtain ⟨k, hk, rfl, HI, hA⟩ := hrel
    by_cases hlt : k = 0
    · subst hlt
      replace HI := Lib.hid (show WAt g S l wr by have h := HI.out; rwa [if_pos rfl, numsOf_nil, List.append_nil] at h)
      have hbr := Lib.hid ((hA.block b hS (lt_of_heap HB.out)).trans HB.out)
      have c0 : wr.cell? ⟨b, 0, none⟩ = some (.int .i64 x) := cell_of_row wr b 0 _ _ _ hbr.out
      have c1 : wr.cell? ⟨b, 1, none⟩ = some (.int .i64 y) := cell_of_row wr b 1 _ _ _ hbr.out
      have c2 : wr.cell? ⟨b, 2, none⟩ = some (.int .i64 z) := cell_of_row wr b 2 _ _ _ hbr.out
      go_wp2_with fail
      refine (fix_list g (fun k => S k ∨ k = (wr.alloc (.cells #[.int .i64 x, .int .i64 y, .int .i64 z] 68)).heap.size) _ _ 3 [x, y, z] _ ((HI.out.on (below_n1 _ _)).push _) (Ints.cons [x, y, z] (heap_last2 _ _ _) (.inr (by simp)) (three_cells x y z)) (by simp) hsz).mono ?_
      rintro e w1 ⟨rfl, hw1, ha1⟩
      have HI2 := Lib.hid (hw1.weak fun k hk => .inl hk)
      have hA2 := ((hA.alloc _).alloc _).trans (ha1.weak fun k hk => .inl hk)
      clear hw1 ha1 c0 c1 c2
      go_wp2_with fail
      go_roundw
      case rel => exact ⟨1, by omega, by go_num, HI2, hA2⟩
      case measure => simp [intOf]
    · obtain rfl : k = 1 := by omega
      go_wp2
      go_end0
      exact ⟨rfl, by have h := HI.out; rw [if_neg (by omega)] at h; exact h, hA⟩

theorem bs_block {w : World} {b : Nat} {t : TypeId} {fr : Nat × Nat} (p : List UInt8) (cap : Nat) (hb : w.heap[b]? = some (.cells (vals p).toArray t fr)) : Bs w (.slice (some ⟨b, 0, none⟩) p.length cap) p :=
  .inr ⟨_, cap, rfl, fun j u hu => by
    rw [Addr.add_mid, Nat.zero_add, cell_of_row w b j _ t fr hb]; simpa using hu⟩

end Go.Proofs.Ytgkfoiekminfmaa.Re
