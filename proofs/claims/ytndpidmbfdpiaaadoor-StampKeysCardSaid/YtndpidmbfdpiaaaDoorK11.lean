/- Layer 22: rows of words; the words that come in round by round, by the program. -/
import Derived.Test.YtndpidmbfdpiaaaDoorK01
import Derived.Test.YtndpidmbfdpiaaaDoorK08
import Derived.Test.YtndpidmbfdpiaaaDoorK09
import Derived.Test.YtndpidmbfdpiaaaDoorK10
import Derived.Laws.CopyOwn
namespace Go.Proofs.YtndpidmbfdpiaaaDoor.Se
open Go Go.RowKit Go.Proofs.YtndpidmbfdpiaaaDoor Go.Proofs.YtndpidmbfdpiaaaDoor.Au Go.Proofs.YtndpidmbfdpiaaaDoor.Re
set_option linter.unusedVariables false
set_option linter.unusedSimpArgs false

/-- numbers of one kind, as values -/
def nums (k : IntKind) (l : List Int) : List Value := l.map (Value.int k)

theorem nums_length (k : IntKind) (l : List Int) : (nums k l).length = l.length := by simp [nums]

theorem nums_one (k : IntKind) (l : List Int) : ∀ u ∈ nums k l, u.oneCell' = true := by
  intro u hu
  simp only [nums, List.mem_map] at hu
  obtain ⟨b, -, rfl⟩ := hu
  rfl

theorem nums_at {k : IntKind} {l : List Int} {j : Nat} (h : j < l.length) : (nums k l)[j]? = some (.int k (l.getD j 0)) := by
  simp [nums, h, List.getD]

theorem nums_set (k : IntKind) (l : List Int) (j : Nat) (v : Int) : (nums k l).toArray.setIfInBounds j (.int k v) = (nums k (l.set j v)).toArray := by
  simp [nums, List.map_set]

theorem nums_app (k : IntKind) (l m : List Int) : nums k (l ++ m) = nums k l ++ nums k m := by simp [nums]

theorem nums_rep (k : IntKind) (n : Nat) (v : Int) : nums k (List.replicate n v) = List.replicate n (.int k v) := by simp [nums]

theorem row_at {w : World} {g : Nat} {k : IntKind} {l : List Int} {T : TypeId} {fr : Nat × Nat} (h : w.heap[g]? = some (.cells (nums k l).toArray T fr)) {j : Nat} (hj : j < l.length) : w.cell? ⟨g, j, none⟩ = some (.int k (l.getD j 0)) := by
  have h1 := nums_at (k := k) hj
  simp [World.cell?, h, h1]

theorem row_put {w : World} {g : Nat} {k : IntKind} {l : List Int} {T : TypeId} (h : w.heap[g]? = some (.cells (nums k l).toArray T (0, 0))) (j : Nat) (v : Int) : (w.setCell ⟨g, j, none⟩ (.int k v)).heap[g]? = some (.cells (nums k (l.set j v)).toArray T (0, 0)) := by
  rw [heap_setCell_same _ _ _ _ _ _ h, nums_set]

theorem row_free {w : World} {g : Nat} {cs : Array Value} {T : TypeId} (h : w.heap[g]? = some (.cells cs T (0, 0))) (j : Nat) : w.frozen? ⟨g, j, none⟩ = false := by simp [World.frozen?, h]

/-- a byte of a block -/
def byteAt (B : List UInt8) (j : Nat) : Int := ((B.getD j 0).toNat : Int)

theorem byteAt_bd (B : List UInt8) (j : Nat) : 0 ≤ byteAt B j ∧ byteAt B j < 256 := by
  unfold byteAt
  have := (B.getD j 0).toNat_lt
  omega

/-- the first m bytes of a word -/
def part (B : List UInt8) (i : Nat) : Nat → Int
  | 0 => 0
  | m + 1 => bits .or .u32 (wr (part B i m * 256)) (byteAt B (4 * i + m))

def words (B : List UInt8) (i : Nat) : List Int := (List.range 64).map fun j => if j < i then part B j 4 else 0

theorem words_len (B : List UInt8) (i : Nat) : (words B i).length = 64 := by simp [words]

theorem words_at (B : List UInt8) (i j : Nat) (h : j < 64) : (words B i).getD j 0 = if j < i then part B j 4 else 0 := by
  simp [words, List.getD, h]

theorem words_0 (B : List UInt8) : words B 0 = List.replicate 64 0 := by
  unfold words
  exact List.ext_getElem (by simp) fun n h1 h2 => by simp only [List.getElem_map, List.getElem_range, List.getElem_replicate]; rw [if_neg (by omega)]

theorem words_set (B : List UInt8) (i : Nat) : (words B i).set i (part B i 4) = words B (i + 1) := by
  unfold words
  apply List.ext_getElem
  · simp
  · intro n h1 h2
    simp only [List.length_set, List.length_map, List.length_range] at h1
    rw [List.getElem_set]
    simp only [List.getElem_map, List.getElem_range]
    by_cases e : i = n
    · subst e; simp
    · rw [if_neg e]
      by_cases h : n < i
      · rw [if_pos h, if_pos (by omega)]
      · rw [if_neg h, if_neg (by omega)]

theorem set_again (l : List Int) (i : Nat) (a b : Int) : (l.set i a).set i b = l.set i b := by simp

/-- the word number i out of those ahead of it -/
def nx (l : List Int) (i : Nat) : Int :=
  wr (wr (wr (x3 (rotr (l.getD (i - 2) 0) 17) (rotr (l.getD (i - 2) 0) 19) (l.getD (i - 2) 0 / 1024) + l.getD (i - 7) 0) + x3 (rotr (l.getD (i - 15) 0) 7) (rotr (l.getD (i - 15) 0) 18) (l.getD (i - 15) 0 / 8)) + l.getD (i - 16) 0)

/-- the words behind n steps -/
def sched (B : List UInt8) : Nat → List Int
  | 0 => words B 16
  | n + 1 => (sched B n).set (16 + n) (nx (sched B n) (16 + n))

theorem sched_len (B : List UInt8) : ∀ n, (sched B n).length = 64
  | 0 => words_len B 16
  | n + 1 => by unfold sched; rw [List.length_set]; exact sched_len B n

/-- a block's 64 bytes lie behind an address -/
def BlkAt (w : World) (g o : Nat) (B : List UInt8) : Prop := ∀ j, j < 64 → w.cell? ⟨g, o + j, none⟩ = some (.int .u8 (byteAt B j))

theorem BlkAt.on {w w' : World} {g o : Nat} {B : List UInt8} (h : BlkAt w g o B) (hb : Below w.heap.size w w') : BlkAt w' g o B := fun j hj => by
  have := h j hj
  exact (hb.cell (World.block_lt_of_cell? w _ this)).trans this

theorem BlkAt.keep {w w' : World} {g o : Nat} {B : List UInt8} (h : BlkAt w g o B) (hb : w'.heap[g]? = w.heap[g]?) : BlkAt w' g o B := fun j hj =>
  (show w'.cell? ⟨g, o + j, none⟩ = w.cell? ⟨g, o + j, none⟩ from World.cell?_of_block (w := w) hb).trans (h j hj)

abbrev Z64 : Array Value := #[.int .u32 0, .int .u32 0, .int .u32 0, .int .u32 0, .int .u32 0, .int .u32 0, .int .u32 0, .int .u32 0, .int .u32 0, .int .u32 0, .int .u32 0, .int .u32 0, .int .u32 0, .int .u32 0, .int .u32 0, .int .u32 0, .int .u32 0, .int .u32 0, .int .u32 0, .int .u32 0, .int .u32 0, .int .u32 0, .int .u32 0, .int .u32 0, .int .u32 0, .int .u32 0, .int .u32 0, .int .u32 0, .int .u32 0, .int .u32 0, .int .u32 0, .int .u32 0, .int .u32 0, .int .u32 0, .int .u32 0, .int .u32 0, .int .u32 0, .int .u32 0, .int .u32 0, .int .u32 0, .int .u32 0, .int .u32 0, .int .u32 0, .int .u32 0, .int .u32 0, .int .u32 0, .int .u32 0, .int .u32 0, .int .u32 0, .int .u32 0, .int .u32 0, .int .u32 0, .int .u32 0, .int .u32 0, .int .u32 0, .int .u32 0, .int .u32 0, .int .u32 0, .int .u32 0, .int .u32 0, .int .u32 0, .int .u32 0, .int .u32 0, .int .u32 0]

theorem z64_nums : Z64 = (nums .u32 (List.replicate 64 0)).toArray := rfl

theorem words_start (B : List UInt8) (k : Nat) (h : k < 64) : (words B k).set k (part B k 0) = words B k := by
  apply List.ext_getElem
  · simp
  · intro n h1 h2
    rw [List.getElem_set]
    by_cases e : k = n
    · subst e; simp [words, part]
    · rw [if_neg e]

theorem size_u8 (W : World) : (sizeOf (Tryd.prog.elem 85)).run Tryd.prog W = .ok 1 W := by
  have h : Tryd.prog.elem 85 = 5 := by kernel_rfl
  rw [h]
  have hi : (Tryd.prog.info? 5).map (·.size) = some 1 := by kernel_rfl
  cases hq : Tryd.prog.info? 5 with
  | none => rw [hq] at hi; simp at hi
  | some i => rw [hq] at hi; simp at hi; simp [sizeOf, typeInfo, hq, hi]

theorem len_blk : Tryd.prog.arrayLen 85 = 64 := by kernel_rfl

theorem und_blk : Tryd.prog.underlying 85 = some (.array (Tryd.prog.arrayLen 85) (Tryd.prog.elem 85)) := by kernel_rfl

theorem add_at (g o j : Nat) : (⟨g, o, none⟩ : Addr).add j = ⟨g, o + j, none⟩ := by unfold Addr.add; split <;> simp_all

theorem slice_word (g o k : Nat) (hk : k < 16) (W : World) : (Instr.sliceAt 85 (.pointer (some ⟨g, o, none⟩)) (some (.int .i64 ((k : Int) * 4))) (some (.int .i64 (((k : Int) + 1) * 4))) none).run Tryd.prog W = .ok (.slice (some ⟨g, o + k * 4, none⟩) 4 (64 - k * 4)) W := by
  rw [run_sliceAt_array_lh W 85 ⟨g, o, none⟩ und_blk .i64 .i64 _ _ (by omega) (by omega) (by rw [len_blk]; omega), size_u8, len_blk]
  simp only [Result.andThen]
  unfold slicedAt
  rw [if_neg (by omega), Nat.mul_one, add_at]
  have e1 : ((k : Int) * 4).toNat = k * 4 := by omega
  have e2 : (((k : Int) + 1) * 4).toNat = k * 4 + 4 := by omega
  rw [e1, e2, show k * 4 + 4 - k * 4 = 4 by omega]

set_option maxHeartbeats 4000000 in
set_option maxRecDepth 100000 in
theorem schedule_any (g o : Nat) (B : List UInt8) (w : World) (hB : BlkAt w g o B) (hg : g < w.heap.size) : Calls Tryd.prog 49 #[.pointer (some ⟨g, o, none⟩)] w fun e' w' => e' = .returned (.agg (nums .u32 (sched B 48)).toArray) ∧ Below w.heap.size w w' := by
  have HB := Lib.hid hB
  clear hB
  go_enter Tryd.func49, Tryd.ntmps49
  go_upto_region 2 with fail
  have hR := Au.rows2 w (.cells Z64 29) (.cells Z64 29)
  have HUx := Ve.below_n2 w (.cells Z64 29) (.cells Z64 29)
  obtain ⟨y0, hy0⟩ : ∃ y0, (w.alloc (.cells Z64 29)).alloc (.cells Z64 29) = y0 := ⟨_, rfl⟩
  rw [hy0] at hR HUx ⊢
  clear hy0
  obtain ⟨hr, hq⟩ := hR
  rw [z64_nums] at hr hq
  obtain ⟨r, hre⟩ : ∃ r, r = w.heap.size := ⟨_, rfl⟩
  obtain ⟨q, hqe⟩ : ∃ q, q = w.heap.size + 1 := ⟨_, rfl⟩
  rw [← hqe] at hq ⊢
  rw [← hre] at hr ⊢
  have hgr : g < r := by omega
  have hrq : r < q := by omega
  have hwr : w.heap.size ≤ r := by omega
  clear hre hqe
  rw [← words_0 B] at hq
  have HR := Lib.hid hr
  have HU := Lib.hid HUx
  clear hr HUx
  go_wp2_with fail
  go_loopw [8] (fun i wr => ∃ k : Nat, k ≤ 16 ∧ i = .int .i64 k ∧ Hid (wr.heap[q]? = some (.cells (nums .u32 (words B k)).toArray 29 (0, 0))) ∧ Hid (wr.heap[r]? = some (.cells (nums .u32 (List.replicate 64 0)).toArray 29 (0, 0))) ∧ Hid (Below w.heap.size w wr)) (fun i _ => 16 - (intOf i).toNat)
  case atStart => exact ⟨0, by omega, rfl, Lib.hid hq, HR, HU⟩
  case round =>
    obtain ⟨k, hk, rfl, HQ, HR1, HU1⟩ := hrel
    by_cases hlt : k < 16
    · have hlt' : (k : Int) < 16 := by omega
      have hsl := fun W => slice_word g o k hlt W
      go_wp2_with fail
      go_loopw [20] (fun j wr => ∃ m : Nat, m ≤ 4 ∧ j = .int .i64 m ∧ Hid (wr.heap[q]? = some (.cells (nums .u32 ((words B k).set k (part B k m))).toArray 29 (0, 0))) ∧ Hid (wr.heap[r]? = some (.cells (nums .u32 (List.replicate 64 0)).toArray 29 (0, 0))) ∧ Hid (Below w.heap.size w wr)) (fun j _ => 4 - (intOf j).toNat)
      case atStart => exact ⟨0, by omega, rfl, by rw [words_start B k (by omega)]; exact HQ, HR1, HU1⟩
      case round =>
        obtain ⟨m, hm, rfl, HQ2, HR2, HU2⟩ := hrel
        by_cases hlm : m < 4
        · have hlm' : (m : Int) < 4 := by omega
          have hby := (HB.out.on HU2.out) (4 * k + m) (by omega)
          rw [show o + (4 * k + m) = o + k * 4 + m by omega] at hby
          have hq0 := row_at HQ2.out (j := k) (by simp [words_len]; omega)
          rw [show ((words B k).set k (part B k m)).getD k 0 = part B k m by simp [List.getD, words_len, show k < 64 by omega]] at hq0
          have hfz := row_free HQ2.out k
          have hbm : byteAt B (4 * k + m) % 4294967296 = byteAt B (4 * k + m) := by have := byteAt_bd B (4 * k + m); omega
          have HST := Lib.hid (show (bits .or .u32 (part B k m * 256 % 4294967296) (byteAt B (4 * k + m))) = part B k (m + 1) from rfl)
          go_wp2_with fail
          go_roundw
          case rel =>
            rw [HST.out]
            refine ⟨m + 1, by omega, by go_num, Lib.hid ?_, Lib.hid ?_, Lib.hid ?_⟩
            · have := row_put HQ2.out k (part B k (m + 1))
              rwa [set_again] at this
            · exact (Below.heap_setCell _ _ _ _ (by show r ≠ q; omega)).trans HR2.out
            · exact HU2.out.setCell (by show w.heap.size ≤ q; omega) _
          case measure => simp [intOf]; omega
        · go_wp2_with fail
          go_roundw
          case rel => exact ⟨k + 1, by omega, by go_num, by rw [← words_set, show 4 = m by omega]; exact HQ2, HR2, HU2⟩
          case measure => simp [intOf]; omega
    · have HK := Lib.hid (show k = 16 by omega)
      have hk16 : ¬ (k : Int) < 16 := by omega
      go_wp2_with fail
      go_loopw [7] (fun i wr => ∃ n : Nat, 16 ≤ n ∧ n ≤ 64 ∧ i = .int .i64 n ∧ Hid (wr.heap[q]? = some (.cells (nums .u32 (sched B (n - 16))).toArray 29 (0, 0))) ∧ Hid (wr.heap[r]? = some (.cells (nums .u32 (List.replicate 64 0)).toArray 29 (0, 0))) ∧ Hid (Below w.heap.size w wr)) (fun i _ => 64 - (intOf i).toNat)
      case atStart => exact ⟨16, by omega, by omega, rfl, by have := HK.out; subst this; exact HQ, HR1, HU1⟩
      case round =>
        obtain ⟨n, hn0, hn, rfl, HQ2, HR2, HU2⟩ := hrel
        by_cases hln : n < 64
        · have hln' : (n : Int) < 64 := by omega
          obtain ⟨L, HL⟩ : ∃ L, Hid (L = sched B (n - 16)) := ⟨_, Lib.hid rfl⟩
          have HLL := Lib.hid (show L.length = 64 by rw [HL.out]; exact sched_len B _)
          rw [← HL.out] at HQ2
          have hq_0 := HQ2.out
          have hr_0 := HR2.out
          have hu_0 := HU2.out
          clear HQ2 HR2 HU2
          obtain ⟨a2, ha2⟩ : ∃ a : Nat, a = n - 2 := ⟨_, rfl⟩
          have hs2 : ((n : Int) - 2) = (a2 : Int) := by omega
          have hl2 : (a2 : Int) < 64 := by omega
          have hw2 : IntKind.i64.wrap (a2 : Int) = a2 := by rw [IntKind.wrap_i64]; omega
          have hk2 : a2 < 64 := by omega
          obtain ⟨x2, HX2⟩ : ∃ x, Hid (x = L.getD a2 0) := ⟨_, Lib.hid rfl⟩
          have HA2 := Lib.hid ha2
          clear ha2
          obtain ⟨a7, ha7⟩ : ∃ a : Nat, a = n - 7 := ⟨_, rfl⟩
          have hs7 : ((n : Int) - 7) = (a7 : Int) := by omega
          have hl7 : (a7 : Int) < 64 := by omega
          have hw7 : IntKind.i64.wrap (a7 : Int) = a7 := by rw [IntKind.wrap_i64]; omega
          have hk7 : a7 < 64 := by omega
          obtain ⟨x7, HX7⟩ : ∃ x, Hid (x = L.getD a7 0) := ⟨_, Lib.hid rfl⟩
          have HA7 := Lib.hid ha7
          clear ha7
          obtain ⟨a15, ha15⟩ : ∃ a : Nat, a = n - 15 := ⟨_, rfl⟩
          have hs15 : ((n : Int) - 15) = (a15 : Int) := by omega
          have hl15 : (a15 : Int) < 64 := by omega
          have hw15 : IntKind.i64.wrap (a15 : Int) = a15 := by rw [IntKind.wrap_i64]; omega
          have hk15 : a15 < 64 := by omega
          obtain ⟨x15, HX15⟩ : ∃ x, Hid (x = L.getD a15 0) := ⟨_, Lib.hid rfl⟩
          have HA15 := Lib.hid ha15
          clear ha15
          obtain ⟨a16, ha16⟩ : ∃ a : Nat, a = n - 16 := ⟨_, rfl⟩
          have hs16 : ((n : Int) - 16) = (a16 : Int) := by omega
          have hl16 : (a16 : Int) < 64 := by omega
          have hw16 : IntKind.i64.wrap (a16 : Int) = a16 := by rw [IntKind.wrap_i64]; omega
          have hk16 : a16 < 64 := by omega
          obtain ⟨x16, HX16⟩ : ∃ x, Hid (x = L.getD a16 0) := ⟨_, Lib.hid rfl⟩
          have HA16 := Lib.hid ha16
          clear ha16
          have HNX := Lib.hid (show (((x3 (rotr x2 17) (rotr x2 19) (x2 / 1024) + x7) % 4294967296 + x3 (rotr x15 7) (rotr x15 18) (x15 / 8)) % 4294967296 + x16) % 4294967296 = nx L n by unfold nx; rw [← HA2.out, ← HA7.out, ← HA15.out, ← HA16.out, ← HX2.out, ← HX7.out, ← HX15.out, ← HX16.out])
          go_wp2_with fail
          refine Ol.way_drew (S := fun y => y.heap[q]? = some (.cells (nums .u32 L).toArray 29 (0, 0))) (stop := 23) (by kernel_rfl) (hq_0) (fun hS0 => ?_)
          obtain ⟨y1, hy1⟩ : ∃ y, wr.drew = y := ⟨_, rfl⟩
          have hq_1 : y1.heap[q]? = some (.cells (nums .u32 L).toArray 29 (0, 0)) := by rw [← hy1]; exact hq_0
          have hr_1 : y1.heap[r]? = some (.cells (nums .u32 (List.replicate 64 0)).toArray 29 (0, 0)) := by rw [← hy1]; exact hr_0
          have hu_1 : Below w.heap.size w y1 := by rw [← hy1]; exact hu_0.drew
          rw [hy1] at hS0 ⊢
          clear hy1 hq_0 hr_0 hu_0
          refine Ol.way_plain (i := 0) (v := ?_) rfl (by kernel_rfl) (by kernel_rfl) (by kernel_rfl) (fun _ _ _ h => h) (by decide) (Or.inl ⟨by kernel_rfl, by (intro wz _; go_simp; try with_reducible rfl)⟩) (Ol.on hS0) ?_
          go_simp
          refine Ol.way_plain (i := 1) (v := ?_) rfl (by kernel_rfl) (by kernel_rfl) (by kernel_rfl) (fun _ _ _ h => h) (by decide) (Or.inl ⟨by kernel_rfl, by (intro wz _; go_simp; try with_reducible rfl)⟩) (Ol.on hS0) ?_
          go_simp
          refine Ol.way_plain (i := 2) (v := ?_) rfl (by kernel_rfl) (by kernel_rfl) (by kernel_rfl) (fun _ _ _ h => h) (by decide) (Or.inl ⟨by kernel_rfl, by (intro wz _; go_simp; try with_reducible rfl)⟩) (Ol.on hS0) ?_
          go_simp
          refine Ol.way_plain (i := 3) (v := ?_) rfl (by kernel_rfl) (by kernel_rfl) (by kernel_rfl) (fun _ _ _ h => h) (by decide) (Or.inl ⟨by kernel_rfl, by (intro wz _; go_simp; try with_reducible rfl)⟩) (Ol.on hS0) ?_
          go_simp
          refine Ol.way_take (i := 4) (v := ?_) rfl (by kernel_rfl) (by kernel_rfl) (by kernel_rfl) (fun _ _ _ h => h) (by decide) (by kernel_rfl) (by kernel_rfl) (Or.inl ⟨by kernel_rfl, by (intro wz hSz; have p2 : wz.cell? ⟨q, a2, none⟩ = some (.int .u32 x2) := (by rw [HX2.out]; exact row_at hSz (by have := HLL.out; omega)); have p7 : wz.cell? ⟨q, a7, none⟩ = some (.int .u32 x7) := (by rw [HX7.out]; exact row_at hSz (by have := HLL.out; omega)); have p15 : wz.cell? ⟨q, a15, none⟩ = some (.int .u32 x15) := (by rw [HX15.out]; exact row_at hSz (by have := HLL.out; omega)); have p16 : wz.cell? ⟨q, a16, none⟩ = some (.int .u32 x16) := (by rw [HX16.out]; exact row_at hSz (by have := HLL.out; omega)); go_simp; try with_reducible rfl)⟩) hS0 ?_
          go_simp
          refine Ol.way_plain (i := 6) (v := ?_) rfl (by kernel_rfl) (by kernel_rfl) (by kernel_rfl) (fun _ _ _ h => h) (by decide) (Or.inl ⟨by kernel_rfl, by (intro wz _; go_simp; try with_reducible rfl)⟩) (Ol.on hS0) ?_
          go_simp
          refine Ol.way_plain (i := 7) (v := ?_) rfl (by kernel_rfl) (by kernel_rfl) (by kernel_rfl) (fun _ _ _ h => h) (by decide) (Or.inl ⟨by kernel_rfl, by (intro wz _; go_simp; try with_reducible rfl)⟩) (Ol.on hS0) ?_
          go_simp
          refine Ol.way_plain (i := 8) (v := ?_) rfl (by kernel_rfl) (by kernel_rfl) (by kernel_rfl) (fun _ _ _ h => h) (by decide) (Or.inl ⟨by kernel_rfl, by (intro wz _; go_simp; try with_reducible rfl)⟩) (Ol.on hS0) ?_
          go_simp
          refine Ol.way_take (i := 9) (v := ?_) rfl (by kernel_rfl) (by kernel_rfl) (by kernel_rfl) (fun _ _ _ h => h) (by decide) (by kernel_rfl) (by kernel_rfl) (Or.inl ⟨by kernel_rfl, by (intro wz hSz; have p2 : wz.cell? ⟨q, a2, none⟩ = some (.int .u32 x2) := (by rw [HX2.out]; exact row_at hSz (by have := HLL.out; omega)); have p7 : wz.cell? ⟨q, a7, none⟩ = some (.int .u32 x7) := (by rw [HX7.out]; exact row_at hSz (by have := HLL.out; omega)); have p15 : wz.cell? ⟨q, a15, none⟩ = some (.int .u32 x15) := (by rw [HX15.out]; exact row_at hSz (by have := HLL.out; omega)); have p16 : wz.cell? ⟨q, a16, none⟩ = some (.int .u32 x16) := (by rw [HX16.out]; exact row_at hSz (by have := HLL.out; omega)); go_simp; try with_reducible rfl)⟩) hS0 ?_
          go_simp
          refine Ol.way_plain (i := 11) (v := ?_) rfl (by kernel_rfl) (by kernel_rfl) (by kernel_rfl) (fun _ _ _ h => h) (by decide) (Or.inl ⟨by kernel_rfl, by (intro wz _; go_simp; try with_reducible rfl)⟩) (Ol.on hS0) ?_
          go_simp
          refine Ol.way_plain (i := 12) (v := ?_) rfl (by kernel_rfl) (by kernel_rfl) (by kernel_rfl) (fun _ _ _ h => h) (by decide) (Or.inl ⟨by kernel_rfl, by (intro wz _; go_simp; try with_reducible rfl)⟩) (Ol.on hS0) ?_
          go_simp
          refine Ol.way_plain (i := 13) (v := ?_) rfl (by kernel_rfl) (by kernel_rfl) (by kernel_rfl) (fun _ _ _ h => h) (by decide) (Or.inl ⟨by kernel_rfl, by (intro wz _; go_simp; try with_reducible rfl)⟩) (Ol.on hS0) ?_
          go_simp
          refine Ol.way_take (i := 14) (v := ?_) rfl (by kernel_rfl) (by kernel_rfl) (by kernel_rfl) (fun _ _ _ h => h) (by decide) (by kernel_rfl) (by kernel_rfl) (Or.inl ⟨by kernel_rfl, by (intro wz hSz; have p2 : wz.cell? ⟨q, a2, none⟩ = some (.int .u32 x2) := (by rw [HX2.out]; exact row_at hSz (by have := HLL.out; omega)); have p7 : wz.cell? ⟨q, a7, none⟩ = some (.int .u32 x7) := (by rw [HX7.out]; exact row_at hSz (by have := HLL.out; omega)); have p15 : wz.cell? ⟨q, a15, none⟩ = some (.int .u32 x15) := (by rw [HX15.out]; exact row_at hSz (by have := HLL.out; omega)); have p16 : wz.cell? ⟨q, a16, none⟩ = some (.int .u32 x16) := (by rw [HX16.out]; exact row_at hSz (by have := HLL.out; omega)); go_simp; try with_reducible rfl)⟩) hS0 ?_
          go_simp
          refine Ol.way_plain (i := 17) (v := ?_) rfl (by kernel_rfl) (by kernel_rfl) (by kernel_rfl) (fun _ _ _ h => h) (by decide) (Or.inl ⟨by kernel_rfl, by (intro wz _; go_simp; try with_reducible rfl)⟩) (Ol.on hS0) ?_
          go_simp
          refine Ol.way_plain (i := 18) (v := ?_) rfl (by kernel_rfl) (by kernel_rfl) (by kernel_rfl) (fun _ _ _ h => h) (by decide) (Or.inl ⟨by kernel_rfl, by (intro wz _; go_simp; try with_reducible rfl)⟩) (Ol.on hS0) ?_
          go_simp
          refine Ol.way_plain (i := 19) (v := ?_) rfl (by kernel_rfl) (by kernel_rfl) (by kernel_rfl) (fun _ _ _ h => h) (by decide) (Or.inl ⟨by kernel_rfl, by (intro wz _; go_simp; try with_reducible rfl)⟩) (Ol.on hS0) ?_
          go_simp
          refine Ol.way_take (i := 20) (v := ?_) rfl (by kernel_rfl) (by kernel_rfl) (by kernel_rfl) (fun _ _ _ h => h) (by decide) (by kernel_rfl) (by kernel_rfl) (Or.inl ⟨by kernel_rfl, by (intro wz hSz; have p2 : wz.cell? ⟨q, a2, none⟩ = some (.int .u32 x2) := (by rw [HX2.out]; exact row_at hSz (by have := HLL.out; omega)); have p7 : wz.cell? ⟨q, a7, none⟩ = some (.int .u32 x7) := (by rw [HX7.out]; exact row_at hSz (by have := HLL.out; omega)); have p15 : wz.cell? ⟨q, a15, none⟩ = some (.int .u32 x15) := (by rw [HX15.out]; exact row_at hSz (by have := HLL.out; omega)); have p16 : wz.cell? ⟨q, a16, none⟩ = some (.int .u32 x16) := (by rw [HX16.out]; exact row_at hSz (by have := HLL.out; omega)); go_simp; try with_reducible rfl)⟩) hS0 ?_
          go_simp
          refine Ol.way_ready (rs := [5]) (by kernel_rfl) (by simp) ?_
          refine Ol.Each.cons rfl (fun K hK => ?_) Ol.Each.nil
          go_simp
          go_wp2_with (go_at_call 52; refine (pushed_a _ _).mono ?_; rintro e y2 ⟨rfl, hb2⟩)
          have hq_2 := (hb2.block _ (lt_heap hq_1)).trans hq_1
          have hr_2 := (hb2.block _ (lt_heap hr_1)).trans hr_1
          have hu_2 := hu_1.trans (hb2.mono hu_1.size)
          refine Ol.keep hK _ _ (hq_2) (fun hSc2 => ?_)
          clear hK K
          refine Ol.way_plain (i := 10) (v := ?_) rfl (by kernel_rfl) (by kernel_rfl) (by kernel_rfl) (fun _ _ _ h => h) (by decide) (Or.inl ⟨by kernel_rfl, by (intro wz _; go_simp; try with_reducible rfl)⟩) (Ol.on hSc2) ?_
          go_simp
          refine Ol.way_ready (rs := [15]) (by kernel_rfl) (by simp) ?_
          refine Ol.Each.cons rfl (fun K hK => ?_) Ol.Each.nil
          go_simp
          go_wp2_with (go_at_call 52; refine (pushed_b _ _).mono ?_; rintro e y3 ⟨rfl, hb3⟩)
          have hq_3 := (hb3.block _ (lt_heap hq_2)).trans hq_2
          have hr_3 := (hb3.block _ (lt_heap hr_2)).trans hr_2
          have hu_3 := hu_2.trans (hb3.mono hu_2.size)
          refine Ol.keep hK _ _ (hq_3) (fun hSc3 => ?_)
          clear hK K
          refine Ol.way_plain (i := 16) (v := ?_) rfl (by kernel_rfl) (by kernel_rfl) (by kernel_rfl) (fun _ _ _ h => h) (by decide) (Or.inl ⟨by kernel_rfl, by (intro wz _; go_simp; try with_reducible rfl)⟩) (Ol.on hSc3) ?_
          go_simp
          refine Ol.way_plain (i := 21) (v := ?_) rfl (by kernel_rfl) (by kernel_rfl) (by kernel_rfl) (fun _ _ _ h => h) (by decide) (Or.inl ⟨by kernel_rfl, by (intro wz _; go_simp; try with_reducible rfl)⟩) (Ol.on hSc3) ?_
          go_simp
          refine Ol.way_plain (i := 22) (v := ?_) rfl (by kernel_rfl) (by kernel_rfl) (by kernel_rfl) (fun _ _ _ h => h) (by decide) (Or.inl ⟨by kernel_rfl, by (intro wz _; go_simp; try with_reducible rfl)⟩) (Ol.on hSc3) ?_
          go_simp
          refine Ol.way_ready (rs := [23]) (by kernel_rfl) (by simp) ?_
          refine Ol.Each.cons rfl (fun K hK => ?_) Ol.Each.nil
          have p0 := row_at hq_3 (j := n) (by have := HLL.out; omega)
          have fz := row_free hq_3 n
          go_simp
          clear p0 fz
          refine Ol.past hK (by kernel_rfl) _ _ ?_
          clear hK K
          refine Ol.way_done (by kernel_rfl) ?_ _
          go_wp2_with fail
          go_roundw
          case rel =>
            rw [HNX.out]
            refine ⟨n + 1, by omega, by omega, by go_num, Lib.hid ?_, Lib.hid ?_, Lib.hid ?_⟩
            · have := row_put hq_3 n (nx L n)
              rw [show n + 1 - 16 = (n - 16) + 1 by omega, show sched B (n - 16 + 1) = (sched B (n - 16)).set (16 + (n - 16)) (nx (sched B (n - 16)) (16 + (n - 16))) from rfl, ← HL.out, show 16 + (n - 16) = n by omega]
              exact this
            · exact (Below.heap_setCell _ _ _ _ (by show r ≠ q; omega)).trans hr_3
            · exact hu_3.setCell (by show w.heap.size ≤ q; omega) _
          case measure => simp [intOf]; omega
        · have hN64 : ¬ (n : Int) < 64 := by omega
          have hQ : wr.heap[q]? = some (.cells (nums .u32 (sched B 48)).toArray 29 (0, 0)) := by have := HQ2.out; rwa [show n - 16 = 48 by omega] at this
          obtain ⟨R, hRe⟩ : ∃ R, R = (nums .u32 (sched B 48)).toArray := ⟨_, rfl⟩
          have hRs : R.size = 64 := by rw [hRe]; simp [nums_length, sched_len]
          have hRo : R.all (·.oneCell') = true := by rw [hRe]; exact all_oneCell_toArray (nums_one _ _)
          rw [← hRe] at hQ
          have HE := Lib.hid hRe
          have HQ3 := Lib.hid hQ
          have HSZ := Lib.hid (show (Tryd.prog.info? 29).map (·.size) = some R.size by rw [hRs]; kernel_rfl)
          have HZZ := Lib.hid (show (nums .u32 (List.replicate 64 0)).toArray.size = R.size by rw [hRs]; simp [nums_length])
          have HOO := Lib.hid hRo
          clear hQ hRe hRs hRo HQ2
          go_wp2_with (first | (with_reducible refine wpList_load_row rfl 29 (.tmp 3) rfl q rfl 29 R (0, 0) _ HQ3.out Tryd.underlying29 rfl HSZ.out ?_) | (refine Au.wpList_store_row rfl 29 (.tmp 2) (.tmp 62) rfl wr (nums .u32 (List.replicate 64 0)).toArray R r 29 HR2.out rfl rfl HSZ.out HZZ.out HOO.out ?_))
          have hN := setRow_heap wr r _ R _ _ HR2.out
          exact bodyPost_ret (v := .agg R) (results_cell_row Tryd.results49 _ _ r 29 R (0, 0) _ rfl hN Tryd.underlying29 rfl HSZ.out) rfl ⟨by rw [HE.out], below_setRow (g := r) HU2.out (by omega) R⟩

end Go.Proofs.YtndpidmbfdpiaaaDoor.Se
