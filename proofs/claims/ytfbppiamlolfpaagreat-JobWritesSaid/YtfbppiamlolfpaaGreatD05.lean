/- Layer 7: the contracts of a writer's points, lights, sums, blobs, and of its bytes; the document's example. -/
import Derived.Test.YtfbppiamlolfpaaGreatD04
namespace Go.Proofs.YtfbppiamlolfpaaGreat.Re
open Go.RowKit Go.Proofs.YtfbppiamlolfpaaGreat Go.Proofs.YtfbppiamlolfpaaGreat.Rp

abbrev V3 (x y z : Int) : Value := .agg #[.int .i64 x, .int .i64 y, .int .i64 z]

theorem to_any (ax ay az : Int) (w : World) : Calls Tryz.prog 21 #[V3 ax ay az] w fun e w' => e = .returned (V3 ax ay az) ∧ Below w.heap.size w w' := by
  go_enter Tryz.func21, Tryz.ntmps21
  go_wp2
  exact bodyPost_ret (v := V3 ax ay az) (by simp [results, Tryz.results21, go_sem]) rfl ⟨rfl, below_n2 _ _ _⟩

theorem from_any (ax ay az : Int) (w : World) : Calls Tryz.prog 37 #[V3 ax ay az] w fun e w' => e = .returned (V3 ax ay az) ∧ Below w.heap.size w w' := by
  go_enter Tryz.func37, Tryz.ntmps37
  go_wp2
  exact bodyPost_ret (v := V3 ax ay az) (by simp [results, Tryz.results37, go_sem]) rfl ⟨rfl, below_n2 _ _ _⟩

theorem hto_any (ax ay az : Int) (w : World) : Calls Tryz.prog 19 #[V3 ax ay az] w fun e w' => e = .returned (V3 ax ay az) ∧ Below w.heap.size w w' := by
  go_enter Tryz.func19, Tryz.ntmps19
  go_wp2
  exact bodyPost_ret (v := V3 ax ay az) (by simp [results, Tryz.results19, go_sem]) rfl ⟨rfl, below_n2 _ _ _⟩

theorem hfrom_any (ax ay az : Int) (w : World) : Calls Tryz.prog 35 #[V3 ax ay az] w fun e w' => e = .returned (V3 ax ay az) ∧ Below w.heap.size w w' := by
  go_enter Tryz.func35, Tryz.ntmps35
  go_wp2
  exact bodyPost_ret (v := V3 ax ay az) (by simp [results, Tryz.results35, go_sem]) rfl ⟨rfl, below_n2 _ _ _⟩

theorem heap_last2 (w : World) (o o2 : Obj) : ((w.alloc o).alloc o2).heap[w.heap.size + 1]? = some o2 := by
  have h := heap_alloc_last (w.alloc o) o2
  simpa using h

theorem three_cells (x y z : Int) : ∀ j, j < [x, y, z].length → (#[.int .i64 x, .int .i64 y, .int .i64 z] : Array Value)[j]? = some (.int .i64 ([x, y, z].getD j 0)) := by
  intro j hj
  match j, hj with
  | 0, _ => rfl
  | 1, _ => rfl
  | 2, _ => rfl

set_option maxHeartbeats 2000000 in
theorem vec_any (g : Nat) (S : Nat → Prop) (l : List UInt8) (b cap : Nat) (t : TypeId) (x y z : Int) (w : World) (hW : WAt g S l w) (hb : w.heap[b]? = some (.cells #[.int .i64 x, .int .i64 y, .int .i64 z] t)) (hS : S b) (hsz : l.length + 10000 ≤ 140737488355328) :
    Calls Tryz.prog 98 #[.pointer (some ⟨g, 0, none⟩), .slice (some ⟨b, 0, none⟩) 1 cap] w fun e w' => e = .returned (.tuple #[]) ∧ WAt g S (l ++ numsOf 5 [x, y, z]) w' ∧ Aw S w w' := by
  have HW := Lib.hid hW
  have HB := Lib.hid hb
  clear hW hb
  go_enter Tryz.func98, Tryz.ntmps98
  go_wp2_with fail
  go_loopw [8] (fun i wr => ∃ k : Nat, k ≤ 1 ∧ i = .int .i64 k ∧ Hid (WAt g S (l ++ numsOf 5 (if k = 0 then [] else [x, y, z])) wr) ∧ Aw S w wr) (fun i _ => 1 - (intOf i).toNat)
  case atStart => exact ⟨0, by omega, rfl, Lib.hid (by rw [if_pos rfl, numsOf_nil, List.append_nil]; exact HW.out), Aw.refl _ _⟩
  case round =>
    obtain ⟨k, hk, rfl, HI, hA⟩ := hrel
    by_cases hlt : k = 0
    · subst hlt
      replace HI := Lib.hid (show WAt g S l wr by have h := HI.out; rwa [if_pos rfl, numsOf_nil, List.append_nil] at h)
      have hbr := Lib.hid ((hA.block b hS (lt_of_heap HB.out)).trans HB.out)
      have c0 : wr.cell? ⟨b, 0, none⟩ = some (.int .i64 x) := cell_of_row wr b 0 _ _ _ hbr.out
      have c1 : wr.cell? ⟨b, 1, none⟩ = some (.int .i64 y) := cell_of_row wr b 1 _ _ _ hbr.out
      have c2 : wr.cell? ⟨b, 2, none⟩ = some (.int .i64 z) := cell_of_row wr b 2 _ _ _ hbr.out
      go_wp2_with fail
      refine (fix_list g (fun k => S k ∨ k = (wr.alloc (.cells #[.int .i64 x, .int .i64 y, .int .i64 z] 94)).heap.size) _ _ 3 [x, y, z] _ ((HI.out.on (below_n1 _ _)).push _) (Ints.cons [x, y, z] (heap_last2 _ _ _) (.inr (by simp)) (three_cells x y z)) (by simp) hsz).mono ?_
      rintro e w1 ⟨rfl, hw1, ha1⟩
      have HI2 := Lib.hid (hw1.weak fun k hk => .inl hk)
      have hA2 := ((hA.alloc _).alloc _).trans (ha1.weak fun k hk => .inl hk)
      clear hw1 ha1 c0 c1 c2
      go_wp2_with fail
      go_roundw
      case rel => exact ⟨1, by omega, by go_num, HI2, hA2⟩
      case measure => simp [intOf]
    · obtain rfl : k = 1 := by omega
      go_wp2
      go_end0
      exact ⟨rfl, by have h := HI.out; rw [if_neg (by omega)] at h; exact h, hA⟩

set_option maxHeartbeats 2000000 in
theorem hue_any (g : Nat) (S : Nat → Prop) (l : List UInt8) (b cap : Nat) (t : TypeId) (x y z : Int) (w : World) (hW : WAt g S l w) (hb : w.heap[b]? = some (.cells #[.int .i64 x, .int .i64 y, .int .i64 z] t)) (hS : S b) (hsz : l.length + 10000 ≤ 140737488355328) :
    Calls Tryz.prog 97 #[.pointer (some ⟨g, 0, none⟩), .slice (some ⟨b, 0, none⟩) 1 cap] w fun e w' => e = .returned (.tuple #[]) ∧ WAt g S (l ++ numsOf 5 [x, y, z]) w' ∧ Aw S w w' := by
  have HW := Lib.hid hW
  have HB := Lib.hid hb
  clear hW hb
  go_enter Tryz.func97, Tryz.ntmps97
  go_wp2_with fail
  go_loopw [8] (fun i wr => ∃ k : Nat, k ≤ 1 ∧ i = .int .i64 k ∧ Hid (WAt g S (l ++ numsOf 5 (if k = 0 then [] else [x, y, z])) wr) ∧ Aw S w wr) (fun i _ => 1 - (intOf i).toNat)
  case atStart => exact ⟨0, by omega, rfl, Lib.hid (by rw [if_pos rfl, numsOf_nil, List.append_nil]; exact HW.out), Aw.refl _ _⟩
  case round =>
    obtain ⟨k, hk, rfl, HI, hA⟩ := hrel
    by_cases hlt : k = 0
    · subst hlt
      replace HI := Lib.hid (show WAt g S l wr by have h := HI.out; rwa [if_pos rfl, numsOf_nil, List.append_nil] at h)
      have hbr := Lib.hid ((hA.block b hS (lt_of_heap HB.out)).trans HB.out)
      have c0 : wr.cell? ⟨b, 0, none⟩ = some (.int .i64 x) := cell_of_row wr b 0 _ _ _ hbr.out
      have c1 : wr.cell? ⟨b, 1, none⟩ = some (.int .i64 y) := cell_of_row wr b 1 _ _ _ hbr.out
      have c2 : wr.cell? ⟨b, 2, none⟩ = some (.int .i64 z) := cell_of_row wr b 2 _ _ _ hbr.out
      go_wp2_with fail
      refine (fix_list g (fun k => S k ∨ k = (wr.alloc (.cells #[.int .i64 x, .int .i64 y, .int .i64 z] 41)).heap.size) _ _ 3 [x, y, z] _ ((HI.out.on (below_n1 _ _)).push _) (Ints.cons [x, y, z] (heap_last2 _ _ _) (.inr (by simp)) (three_cells x y z)) (by simp) hsz).mono ?_
      rintro e w1 ⟨rfl, hw1, ha1⟩
      have HI2 := Lib.hid (hw1.weak fun k hk => .inl hk)
      have hA2 := ((hA.alloc _).alloc _).trans (ha1.weak fun k hk => .inl hk)
      clear hw1 ha1 c0 c1 c2
      go_wp2_with fail
      go_roundw
      case rel => exact ⟨1, by omega, by go_num, HI2, hA2⟩
      case measure => simp [intOf]
    · obtain rfl : k = 1 := by omega
      go_wp2
      go_end0
      exact ⟨rfl, by have h := HI.out; rw [if_neg (by omega)] at h; exact h, hA⟩

theorem bs_block {w : World} {b : Nat} {t : TypeId} {fr : Nat × Nat} (p : List UInt8) (cap : Nat) (hb : w.heap[b]? = some (.cells (vals p).toArray t fr)) : Bs w (.slice (some ⟨b, 0, none⟩) p.length cap) p :=
  .inr ⟨_, cap, rfl, fun j u hu => by
    rw [Addr.add_mid, Nat.zero_add, cell_of_row w b j _ t fr hb]; simpa using hu⟩

end Go.Proofs.YtfbppiamlolfpaaGreat.Re

/- Layer 7: the contracts of the library's Clone, of a writer's Bytes; the document's example. -/
namespace Go.Proofs.YtfbppiamlolfpaaGreat.Re
open Go.RowKit Go.Proofs.YtfbppiamlolfpaaGreat Go.Proofs.YtfbppiamlolfpaaGreat.Rp

theorem clone_nil (w : World) : Calls Tryz.prog 56 #[.slice none 0 0] w fun e w' => e = .returned (.slice none 0 0) ∧ w' = w := by
  have hnn := fun wx => Lib.run_eql_slice_nil (P := Tryz.prog) wx 35 5 none 0 0 0 0 Tryz.underlying35
  go_enter Tryz.func56, Tryz.ntmps56
  go_wp2
  go_ret
  exact ⟨rfl, rfl⟩

set_option maxHeartbeats 1000000 in
theorem clone_some (l : List UInt8) (ad : Addr) (cap : Nat) (w : World) (hb : ∀ j u, (vals l)[j]? = some u → w.cell? (ad.add j) = some u) (hsz : l.length ≤ 140737488355328) :
    Calls Tryz.prog 56 #[.slice (some ad) l.length cap] w fun e w' => (∃ b cap', e = .returned (.slice (some ⟨b, 0, none⟩) l.length cap') ∧ w'.ownsRow w.heap.size 5 1 (.slice (some ⟨b, 0, none⟩) l.length cap') l.length (vals l)) ∧ Below w.heap.size w w' := by
  obtain ⟨i0, hi, hz0, hz1, hz2⟩ := info_parts infoByte
  have hnn := fun wx => Lib.run_eql_slice_nil (P := Tryz.prog) wx 35 5 (some ad) l.length cap 0 0 Tryz.underlying35
  have hb2 := fun j u hu => old1 (.cells #[] 5) (hb j u hu)
  have HB := Lib.hid hb2
  clear hb hb2
  go_enter Tryz.func56, Tryz.ntmps56
  go_wp2_with (first | (at_builtin; refine wpList_append_own _ rfl _ _ 35 rfl w.heap.size 5 i0 (.int .u8 0) 1 1 Tryz.underlying35 hi hz0 hz1 hz2 rfl (by decide) _ _ _ rfl (World.ownsRow_lit w #[] 0 (Nat.le_refl _) (by unfold maxLen; omega) rfl) ad l.length cap (vals l) rfl ?c1 HB.out (vals_one l) ?c3 ?c4 ?c5 ?_))
  case c1 => rw [vals_length]; omega
  case c3 => unfold maxLen; omega
  case c4 => omega
  case c5 => simp
  intro v' w1 hown hgrow hnil
  have hbel : Below w.heap.size w w1 := (below_n1 w (.cells #[] 5)).grown hgrow (by simp) (fun q hq => by simp [Value.ownBlock] at hq; omega)
  have hform : ∃ b cap', v' = .slice (some ⟨b, 0, none⟩) l.length cap' := by
    rcases hown.2 with ⟨h, -⟩ | ⟨q, cap', cur, h, -⟩
    · exact (hnil h).elim
    · exact ⟨q, cap', by rw [h]⟩
  obtain ⟨b, cap', hv⟩ := hform
  rw [hv] at hown ⊢
  have HO := Lib.hid (show w1.ownsRow w.heap.size 5 1 (.slice (some ⟨b, 0, none⟩) l.length cap') l.length (vals l) by simpa using hown)
  clear hown hgrow hnil hv hi hz0 hz1 hz2
  go_wp2
  go_ret
  exact ⟨⟨b, cap', rfl, HO.out⟩, hbel⟩

theorem clone_any (l : List UInt8) (v : Value) (w : World) (hb : Bs w v l) (hsz : l.length ≤ 140737488355328) :
    Calls Tryz.prog 56 #[v] w fun e w' => (∃ v', e = .returned v' ∧ w'.ownsRow w.heap.size 5 1 v' l.length (vals l)) ∧ Below w.heap.size w w' := by
  rcases hb with ⟨rfl, rfl⟩ | ⟨ad, cap, rfl, hb⟩
  · exact (clone_nil w).mono fun e w' ⟨he, hw⟩ => ⟨⟨_, he, World.ownsRow_nil _ _ _ _⟩, by rw [hw]; exact Below.refl _ _⟩
  · exact (clone_some l ad cap w hb hsz).mono fun e w' ⟨⟨b, c, he, ho⟩, hw⟩ => ⟨⟨_, he, ho⟩, hw⟩

theorem bytes_any (g : Nat) (S : Nat → Prop) (l : List UInt8) (w : World) (hW : WAt g S l w) (hsz : l.length ≤ 140737488355328) :
    Calls Tryz.prog 18 #[.pointer (some ⟨g, 0, none⟩)] w fun e w' => (∃ a n c, e = .returned (.slice a n c) ∧ w'.ownsRow w.heap.size 5 1 (.slice a n c) l.length (vals l)) ∧ Below w.heap.size w w' := by
  obtain ⟨h1, h2, h0, h3, v, h4, h5, h6⟩ := hW
  obtain ⟨a, c, rfl⟩ := own_form h5
  have hbs := own_bs h5
  go_enter Tryz.func18, Tryz.ntmps18
  go_wp2_with fail
  refine (clone_any l _ _ hbs hsz).mono ?_
  rintro e w1 ⟨⟨v', rfl, ho⟩, hb⟩
  obtain ⟨a', c', hv⟩ := own_form ho
  subst hv
  go_wp2_with fail
  go_ret
  exact ⟨⟨a', l.length, c', rfl, ho⟩, hb⟩

/-! ### the document's example -/
def example7 : List UInt8 := [2, 1, 255, 255, 255, 255, 255]

theorem example7_is : ([] : List UInt8) ++ numsOf 2 [258] ++ numsOf 5 [-1] = example7 := by decide +kernel

end Go.Proofs.YtfbppiamlolfpaaGreat.Re

/- Layer 7: a value of the statements: what it is, how it lies in memory, and what it is laid as. -/
namespace Go.Proofs.YtfbppiamlolfpaaGreat.Re
open Go.RowKit Go.Proofs.YtfbppiamlolfpaaGreat Go.Proofs.YtfbppiamlolfpaaGreat.Rp

/-- a value: its kind, its number, its point, its sum, its bytes and where they lie, how many at most -/
structure It where
  kind : Int
  n : Int
  v0 : Int
  v1 : Int
  v2 : Int
  d : List UInt8
  a : Option Addr
  plen : Nat
  pcap : Nat
  p : List UInt8
  most : Int

/-- its cells -/
def It.cells (x : It) : List Value := .int .i64 x.kind :: .int .i64 x.n :: .int .i64 x.v0 :: .int .i64 x.v1 :: .int .i64 x.v2 :: (vals x.d ++ [.slice x.a x.plen x.pcap, .int .i64 x.most])

def ItOk (x : It) : Prop := x.d.length = 32 ∧ (x.p.length ≤ 3000 → x.plen ≤ 3000) ∧ (-9223372036854775808 ≤ x.n ∧ x.n ≤ 9223372036854775807) ∧ (-9223372036854775808 ≤ x.most ∧ x.most ≤ 9223372036854775807)

theorem It.cells_length {x : It} (h : ItOk x) : x.cells.length = 39 := by simp [It.cells, vals_length, h.1]

theorem It.cell_d {x : It} (h : ItOk x) (j : Nat) (hj : j < 32) : x.cells[5 + j]? = (vals x.d)[j]? := by
  unfold It.cells
  rw [show 5 + j = j + 1 + 1 + 1 + 1 + 1 by omega]
  simp only [List.getElem?_cons_succ]
  rw [List.getElem?_append_left (by rw [vals_length, h.1]; exact hj)]
theorem It.cell_p {x : It} (h : ItOk x) : x.cells[37]? = some (.slice x.a x.plen x.pcap) := by
  unfold It.cells
  simp only [List.getElem?_cons_succ]
  rw [List.getElem?_append_right (by rw [vals_length, h.1]; omega), vals_length, h.1]
  rfl
theorem It.cell_m {x : It} (h : ItOk x) : x.cells[38]? = some (.int .i64 x.most) := by
  unfold It.cells
  simp only [List.getElem?_cons_succ]
  rw [List.getElem?_append_right (by rw [vals_length, h.1]; omega), vals_length, h.1]
  rfl

/-- what a walk asks of a value in a block of its own -/
theorem box_facts {w : World} {b : Nat} {t : TypeId} {fr : Nat × Nat} {x : It} (hx : ItOk x) (hb : w.heap[b]? = some (.cells x.cells.toArray t fr)) :
    (w.cell? ⟨b, 0, none⟩ = some (.int .i64 x.kind) ∧ w.cell? ⟨b, 1, none⟩ = some (.int .i64 x.n) ∧ w.cell? ⟨b, 2, none⟩ = some (.int .i64 x.v0) ∧ w.cell? ⟨b, 3, none⟩ = some (.int .i64 x.v1) ∧ w.cell? ⟨b, 4, none⟩ = some (.int .i64 x.v2) ∧
      w.cell? ⟨b, 37, none⟩ = some (.slice x.a x.plen x.pcap) ∧ w.cell? ⟨b, 38, none⟩ = some (.int .i64 x.most)) ∧ w.rangeAt b 5 (vals x.d) := by
  have hc : ∀ j, w.cell? ⟨b, j, none⟩ = x.cells[j]? := fun j => by rw [cell_of_row w b j _ t fr hb]; simp
  refine ⟨⟨by rw [hc]; rfl, by rw [hc]; rfl, by rw [hc]; rfl, by rw [hc]; rfl, by rw [hc]; rfl, by rw [hc]; exact It.cell_p hx, by rw [hc]; exact It.cell_m hx⟩, fun j v hv => ?_⟩
  have hj : j < 32 := by have := (List.getElem?_eq_some_iff.1 hv).1; rw [vals_length, hx.1] at this; exact this
  rw [hc, It.cell_d hx j hj]; exact hv

/-- what a value is laid as, by the document -/
def enc (x : It) : List UInt8 :=
  if x.kind = 0 then bytesOf (u64 x.n) 1 else if x.kind = 1 then bytesOf (u64 x.n) 2 else if x.kind = 2 then bytesOf (u64 x.n) 4 else if x.kind = 3 then bytesOf (u64 x.n) 8 else
  if x.kind = 4 then bytesOf (u64 x.n) 5 else if x.kind = 5 then numsOf 5 [x.v0, x.v1, x.v2] else if x.kind = 6 then numsOf 5 [x.v0, x.v1, x.v2] else if x.kind = 7 then x.d else
  if x.kind = 8 then bytesOf x.p.length 4 ++ x.p else []
theorem enc_length {x : It} (hx : ItOk x) (hp : x.p.length ≤ 3000) : (enc x).length ≤ 3004 := by
  unfold enc
  repeat' split
  all_goals simp [bytesOf_length, numsOf_length, hx.1]
  omega
end Go.Proofs.YtfbppiamlolfpaaGreat.Re
