/- Layer 7: the contracts of a writer's points, lights, sums, blobs, and of its bytes; the document's example. -/
import Derived.Test.YtgabpmoibmhigaaReb
namespace Go.Proofs.Ytgabpmoibmhigaa.Re
open Go.RowKit Go.Proofs.Ytgabpmoibmhigaa Go.Proofs.Ytgabpmoibmhigaa.Rp

abbrev V3 (x y z : Int) : Value := .agg #[.int .i64 x, .int .i64 y, .int .i64 z]

theorem to_any (ax ay az : Int) (w : World) : Calls Try.prog 41 #[V3 ax ay az] w fun e w' => e = .returned (V3 ax ay az) ∧ Below w.heap.size w w' := by
  go_enter Try.func41, Try.ntmps41
  go_wp2
  exact bodyPost_ret (v := V3 ax ay az) (by simp [results, Try.results41, go_sem]) rfl ⟨rfl, below_n2 _ _ _⟩
theorem from_any (ax ay az : Int) (w : World) : Calls Try.prog 24 #[V3 ax ay az] w fun e w' => e = .returned (V3 ax ay az) ∧ Below w.heap.size w w' := by
  go_enter Try.func24, Try.ntmps24
  go_wp2
  exact bodyPost_ret (v := V3 ax ay az) (by simp [results, Try.results24, go_sem]) rfl ⟨rfl, below_n2 _ _ _⟩
theorem hto_any (ax ay az : Int) (w : World) : Calls Try.prog 43 #[V3 ax ay az] w fun e w' => e = .returned (V3 ax ay az) ∧ Below w.heap.size w w' := by
  go_enter Try.func43, Try.ntmps43
  go_wp2
  exact bodyPost_ret (v := V3 ax ay az) (by simp [results, Try.results43, go_sem]) rfl ⟨rfl, below_n2 _ _ _⟩
theorem hfrom_any (ax ay az : Int) (w : World) : Calls Try.prog 26 #[V3 ax ay az] w fun e w' => e = .returned (V3 ax ay az) ∧ Below w.heap.size w w' := by
  go_enter Try.func26, Try.ntmps26
  go_wp2
  exact bodyPost_ret (v := V3 ax ay az) (by simp [results, Try.results26, go_sem]) rfl ⟨rfl, below_n2 _ _ _⟩

theorem heap_last2 (w : World) (o o2 : Obj) : ((w.alloc o).alloc o2).heap[w.heap.size + 1]? = some o2 := by
  have h := heap_alloc_last (w.alloc o) o2
  simpa using h

theorem three_cells (x y z : Int) : ∀ j, j < [x, y, z].length → (#[.int .i64 x, .int .i64 y, .int .i64 z] : Array Value)[j]? = some (.int .i64 ([x, y, z].getD j 0)) := by
  intro j hj
  match j, hj with
  | 0, _ => rfl
  | 1, _ => rfl
  | 2, _ => rfl

set_option maxHeartbeats 2000000 in
theorem vec_any (g : Nat) (S : Nat → Prop) (l : List UInt8) (b cap : Nat) (t : TypeId) (x y z : Int) (w : World) (hW : WAt g S l w) (hb : w.heap[b]? = some (.cells #[.int .i64 x, .int .i64 y, .int .i64 z] t)) (hS : S b) (hsz : l.length + 10000 ≤ 140737488355328) :
    Calls Try.prog 40 #[.pointer (some ⟨g, 0, none⟩), .slice (some ⟨b, 0, none⟩) 1 cap] w fun e w' => e = .returned (.tuple #[]) ∧ WAt g S (l ++ numsOf 5 [x, y, z]) w' ∧ Aw S w w' := by
  have HW := Lib.hid hW
  have HB := Lib.hid hb
  clear hW hb
  go_enter Try.func40, Try.ntmps40
  go_wp2_with fail
  go_loopw [8] (fun i wr => ∃ k : Nat, k ≤ 1 ∧ i = .int .i64 k ∧ Hid (WAt g S (l ++ numsOf 5 (if k = 0 then [] else [x, y, z])) wr) ∧ Aw S w wr) (fun i _ => 1 - (intOf i).toNat)
  case atStart => exact ⟨0, by omega, rfl, Lib.hid (by rw [if_pos rfl, numsOf_nil, List.append_nil]; exact HW.out), Aw.refl _ _⟩
  case round =>
    obtain ⟨k, hk, rfl, HI, hA⟩ := hrel
    by_cases hlt : k = 0
    · subst hlt
      replace HI := Lib.hid (show WAt g S l wr by have h := HI.out; rwa [if_pos rfl, numsOf_nil, List.append_nil] at h)
      have hbr := Lib.hid ((hA.block b hS (lt_of_heap HB.out)).trans HB.out)
      have c0 : wr.cell? ⟨b, 0, none⟩ = some (.int .i64 x) := cell_of_row wr b 0 _ _ _ hbr.out
      have c1 : wr.cell? ⟨b, 1, none⟩ = some (.int .i64 y) := cell_of_row wr b 1 _ _ _ hbr.out
      have c2 : wr.cell? ⟨b, 2, none⟩ = some (.int .i64 z) := cell_of_row wr b 2 _ _ _ hbr.out
      go_wp2_with fail
      refine (fix_list g (fun k => S k ∨ k = (wr.alloc (.cells #[.int .i64 x, .int .i64 y, .int .i64 z] 58)).heap.size) _ _ 3 [x, y, z] _ ((HI.out.on (below_n1 _ _)).push _) (Ints.cons [x, y, z] (heap_last2 _ _ _) (.inr (by simp)) (three_cells x y z)) (by simp) hsz).mono ?_
      rintro e w1 ⟨rfl, hw1, ha1⟩
      have HI2 := Lib.hid (hw1.weak fun k hk => .inl hk)
      have hA2 := ((hA.alloc _).alloc _).trans (ha1.weak fun k hk => .inl hk)
      clear hw1 ha1 c0 c1 c2
      go_wp2_with fail
      go_roundw
      case rel => exact ⟨1, by omega, by go_num, HI2, hA2⟩
      case measure => simp [intOf]
    · obtain rfl : k = 1 := by omega
      go_wp2
      go_end0
      exact ⟨rfl, by have h := HI.out; rw [if_neg (by omega)] at h; exact h, hA⟩

set_option maxHeartbeats 2000000 in
theorem hue_any (g : Nat) (S : Nat → Prop) (l : List UInt8) (b cap : Nat) (t : TypeId) (x y z : Int) (w : World) (hW : WAt g S l w) (hb : w.heap[b]? = some (.cells #[.int .i64 x, .int .i64 y, .int .i64 z] t)) (hS : S b) (hsz : l.length + 10000 ≤ 140737488355328) :
    Calls Try.prog 42 #[.pointer (some ⟨g, 0, none⟩), .slice (some ⟨b, 0, none⟩) 1 cap] w fun e w' => e = .returned (.tuple #[]) ∧ WAt g S (l ++ numsOf 5 [x, y, z]) w' ∧ Aw S w w' := by
  have HW := Lib.hid hW
  have HB := Lib.hid hb
  clear hW hb
  go_enter Try.func42, Try.ntmps42
  go_wp2_with fail
  go_loopw [8] (fun i wr => ∃ k : Nat, k ≤ 1 ∧ i = .int .i64 k ∧ Hid (WAt g S (l ++ numsOf 5 (if k = 0 then [] else [x, y, z])) wr) ∧ Aw S w wr) (fun i _ => 1 - (intOf i).toNat)
  case atStart => exact ⟨0, by omega, rfl, Lib.hid (by rw [if_pos rfl, numsOf_nil, List.append_nil]; exact HW.out), Aw.refl _ _⟩
  case round =>
    obtain ⟨k, hk, rfl, HI, hA⟩ := hrel
    by_cases hlt : k = 0
    · subst hlt
      replace HI := Lib.hid (show WAt g S l wr by have h := HI.out; rwa [if_pos rfl, numsOf_nil, List.append_nil] at h)
      have hbr := Lib.hid ((hA.block b hS (lt_of_heap HB.out)).trans HB.out)
      have c0 : wr.cell? ⟨b, 0, none⟩ = some (.int .i64 x) := cell_of_row wr b 0 _ _ _ hbr.out
      have c1 : wr.cell? ⟨b, 1, none⟩ = some (.int .i64 y) := cell_of_row wr b 1 _ _ _ hbr.out
      have c2 : wr.cell? ⟨b, 2, none⟩ = some (.int .i64 z) := cell_of_row wr b 2 _ _ _ hbr.out
      go_wp2_with fail
      refine (fix_list g (fun k => S k ∨ k = (wr.alloc (.cells #[.int .i64 x, .int .i64 y, .int .i64 z] 63)).heap.size) _ _ 3 [x, y, z] _ ((HI.out.on (below_n1 _ _)).push _) (Ints.cons [x, y, z] (heap_last2 _ _ _) (.inr (by simp)) (three_cells x y z)) (by simp) hsz).mono ?_
      rintro e w1 ⟨rfl, hw1, ha1⟩
      have HI2 := Lib.hid (hw1.weak fun k hk => .inl hk)
      have hA2 := ((hA.alloc _).alloc _).trans (ha1.weak fun k hk => .inl hk)
      clear hw1 ha1 c0 c1 c2
      go_wp2_with fail
      go_roundw
      case rel => exact ⟨1, by omega, by go_num, HI2, hA2⟩
      case measure => simp [intOf]
    · obtain rfl : k = 1 := by omega
      go_wp2
      go_end0
      exact ⟨rfl, by have h := HI.out; rw [if_neg (by omega)] at h; exact h, hA⟩

theorem bs_block {w : World} {b : Nat} {t : TypeId} {fr : Nat × Nat} (p : List UInt8) (cap : Nat) (hb : w.heap[b]? = some (.cells (vals p).toArray t fr)) : Bs w (.slice (some ⟨b, 0, none⟩) p.length cap) p :=
  .inr ⟨_, cap, rfl, fun j u hu => by
    rw [Addr.add_mid, Nat.zero_add, cell_of_row w b j _ t fr hb]; simpa using hu⟩

theorem wsum_any (g : Nat) (S : Nat → Prop) (l d : List UInt8) (hd : d.length = 32) (w : World) (hW : WAt g S l w) (hsz : l.length + 32 ≤ 140737488355328) :
    Calls Try.prog 33 #[.pointer (some ⟨g, 0, none⟩), .agg (vals d).toArray] w fun e w' => e = .returned (.tuple #[]) ∧ WAt g S (l ++ d) w' ∧ Aw S w w' := by
  obtain ⟨cs, hcs⟩ : ∃ cs, cs = (vals d).toArray := ⟨_, rfl⟩
  rw [← hcs]
  have HC := Lib.hid hcs
  clear hcs
  go_enter Try.func33, Try.ntmps33
  go_wp2_with fail
  refine (put_any g S l d _ _ (hW.on (below_n1 _ _)) (by have h := bs_block d 32 (heap_alloc_last w (.cells (vals d).toArray 65)); rw [hd, ← HC.out] at h; exact h) (by omega)).mono ?_
  rintro e w1 ⟨rfl, hw1, ha1⟩
  have hA2 := ((Aw.refl S w).alloc _).trans ha1
  go_wp2_with fail
  go_end0
  exact ⟨rfl, hw1, hA2⟩

theorem wblob_any (g : Nat) (S : Nat → Prop) (l p : List UInt8) (a : Option Addr) (n c : Nat) (w : World) (hW : WAt g S l w) (hb : Bs w (.slice a n c) p) (hk : ∀ ad, a = some ad → p ≠ [] → S ad.block) (hn : n ≤ 140737488355328) (hsz : l.length + p.length + 32 ≤ 140737488355328) :
    Calls Try.prog 34 #[.pointer (some ⟨g, 0, none⟩), .slice a n c] w fun e w' => e = .returned (.tuple #[]) ∧ WAt g S (l ++ bytesOf p.length 4 ++ p) w' ∧ Aw S w w' := by
  have hlen : n = p.length := by
    rcases hb with ⟨h, rfl⟩ | ⟨ad, cap, h, -⟩ <;> (simp at h; simp [h])
  have HL := Lib.hid hlen
  have HW := Lib.hid hW
  have HU := Lib.hid (u64_nat p.length (by omega))
  clear hW hlen
  go_enter Try.func34, Try.ntmps34
  go_wp2_with fail
  refine (word_any g _ l _ 1 (n : Int) _ (HW.out.push _) (Ints.one _ _) (by omega)).mono ?_
  rintro e w1 ⟨rfl, hw1, ha1⟩
  rw [HL.out, HU.out] at hw1
  have hA2 := ((Aw.refl S w).alloc _).trans (ha1.weak fun k hk => .inl hk)
  have hb2 : Bs w1 (.slice a n c) p := hb.aw hA2 (fun ad _ _ e he => hk ad (by simp at e; exact e.1) he)
  go_wp2_with fail
  refine (put_any g S _ p _ _ (hw1.weak fun k hk => .inl hk) hb2 (by simp [bytesOf_length]; omega)).mono ?_
  rintro e w2 ⟨rfl, hw2, ha2⟩
  have hA3 := hA2.trans ha2
  go_wp2_with fail
  go_end0
  exact ⟨rfl, hw2, hA3⟩
end Go.Proofs.Ytgabpmoibmhigaa.Re
