/- Layer 22: a press, byte by byte; New and take by the program. -/
import Derived.Test.YtndpidmbfdpiaaaDoorK13
namespace Go.Proofs.YtndpidmbfdpiaaaDoor.Se
open Go Go.RowKit Go.Proofs.YtndpidmbfdpiaaaDoor Go.Proofs.YtndpidmbfdpiaaaDoor.Au Go.Proofs.YtndpidmbfdpiaaaDoor.Re
set_option linter.unusedVariables false
set_option linter.unusedSimpArgs false

/-- a press: its words, its block, how many bytes came -/
structure Pst where
  v : V8
  blk : List UInt8
  n : Nat

/-- one byte more -/
def feed (s : Pst) (b : UInt8) : Pst :=
  ⟨if s.n % 64 + 1 = 64 then stir s.v (s.blk.set (s.n % 64) b) else s.v, s.blk.set (s.n % 64) b, s.n + 1⟩

def feeds (s : Pst) (l : List UInt8) : Pst := l.foldl feed s

def press0 : Pst := ⟨start, List.replicate 64 0, 0⟩

theorem feeds_app (s : Pst) (a b : List UInt8) : feeds s (a ++ b) = feeds (feeds s a) b := List.foldl_append ..

theorem feed_len (s : Pst) (b : UInt8) : (feed s b).blk.length = s.blk.length := by simp [feed]

theorem feeds_len (s : Pst) : ∀ l : List UInt8, (feeds s l).blk.length = s.blk.length := fun l => by
  induction l generalizing s with
  | nil => rfl
  | cons b r ih => exact (ih (feed s b)).trans (feed_len s b)

theorem feeds_n (s : Pst) : ∀ l : List UInt8, (feeds s l).n = s.n + l.length := fun l => by
  induction l generalizing s with
  | nil => rfl
  | cons b r ih =>
    refine (ih (feed s b)).trans ?_
    show s.n + 1 + r.length = s.n + (r.length + 1)
    omega

/-- as many bytes as the block has room for -/
theorem feeds_chunk (s : Pst) (h64 : s.blk.length = 64) : ∀ l : List UInt8, l ≠ [] → s.n % 64 + l.length ≤ 64 →
    feeds s l = ⟨if s.n % 64 + l.length = 64 then stir s.v (splice s.blk (s.n % 64) l) else s.v, splice s.blk (s.n % 64) l, s.n + l.length⟩ := fun l => by
  induction l generalizing s with
  | nil => intro h; exact absurd rfl h
  | cons b r ih =>
    intro _ hl
    have hk : s.n % 64 < 64 := Nat.mod_lt _ (by decide)
    simp only [List.length_cons] at hl
    have hsp : splice (s.blk.set (s.n % 64) b) (s.n % 64 + 1) r = splice s.blk (s.n % 64) (b :: r) := by
      unfold splice
      simp only [List.length_cons, List.take_set, List.drop_set]
      rw [List.take_succ_eq_append_getElem (by rw [h64]; exact hk), List.set_append]
      simp only [List.length_take, h64]
      rw [if_neg (by omega), if_pos (by omega)]
      rw [show s.n % 64 - min (s.n % 64) 64 = 0 by omega]
      simp only [List.set_cons_zero, List.append_assoc, List.cons_append, List.nil_append]
      rw [show s.n % 64 + 1 + r.length = s.n % 64 + (r.length + 1) by omega]
    by_cases hr : r = []
    · subst hr
      show feed s b = _
      unfold feed splice
      simp only [List.length_cons, List.length_nil, Nat.zero_add]
      have e : s.blk.set (s.n % 64) b = s.blk.take (s.n % 64) ++ ([b] ++ s.blk.drop (s.n % 64 + 1)) := by
        rw [List.set_eq_take_append_cons_drop, if_pos (by rw [h64]; exact hk)]
        rfl
      rw [e]
    · have h0 : 0 < r.length := List.length_pos_iff.2 hr
      have hm : (s.n + 1) % 64 = s.n % 64 + 1 := by omega
      have hf : feed s b = ⟨s.v, s.blk.set (s.n % 64) b, s.n + 1⟩ := by
        unfold feed; rw [if_neg (by omega)]
      show feeds (feed s b) r = _
      rw [hf, ih ⟨s.v, s.blk.set (s.n % 64) b, s.n + 1⟩ (by simp [h64]) hr (by show (s.n + 1) % 64 + _ ≤ 64; omega)]
      show Pst.mk (if (s.n + 1) % 64 + r.length = 64 then _ else _) _ _ = _
      rw [hm, hsp]
      simp only [List.length_cons]
      rw [show s.n % 64 + 1 + r.length = s.n % 64 + (r.length + 1) by omega, show s.n + 1 + r.length = s.n + (r.length + 1) by omega]

/-- a press's cells -/
def PC (v : V8) (blk : List UInt8) (m : Nat) : List Value := nums .u32 v.l ++ (vals blk ++ [.int .u64 (m : Int)])

theorem PC_len (v : V8) (blk : List UInt8) (m : Nat) (h : blk.length = 64) : (PC v blk m).length = 73 := by
  unfold PC
  simp [nums_length, vals_length, h, V8.l]

theorem PC_one (v : V8) (blk : List UInt8) (m : Nat) : ∀ u ∈ PC v blk m, u.oneCell' = true := by
  intro u hu
  unfold PC at hu
  rcases List.mem_append.1 hu with h | h
  · exact nums_one _ _ u h
  · rcases List.mem_append.1 h with h | h
    · exact vals_one _ u h
    · simp at h; subst h; rfl

theorem PC_words (v : V8) (blk : List UInt8) (m : Nat) (j : Nat) (hj : j < 8) : (PC v blk m)[j]? = some (.int .u32 (v.l.getD j 0)) := by
  unfold PC
  rw [List.getElem?_append_left (by rw [nums_length]; exact hj)]
  exact nums_at (by exact hj)

theorem PC_blk (v : V8) (blk : List UInt8) (m : Nat) (h : blk.length = 64) (j : Nat) (hj : j < 64) : (PC v blk m)[8 + j]? = some (.int .u8 (byteAt blk j)) := by
  unfold PC
  rw [List.getElem?_append_right (by rw [nums_length]; show 8 ≤ _; omega), nums_length, show 8 + j - v.l.length = j by show 8 + j - 8 = j; omega, List.getElem?_append_left (by rw [vals_length, h]; exact hj)]
  unfold vals byteAt
  rw [List.getElem?_map, List.getElem?_eq_getElem (by rw [h]; exact hj)]
  simp [List.getD, show j < blk.length by rw [h]; exact hj]

theorem PC_many (v : V8) (blk : List UInt8) (m : Nat) (h : blk.length = 64) : (PC v blk m)[72]? = some (.int .u64 (m : Int)) := by
  unfold PC
  rw [List.getElem?_append_right (by rw [nums_length]; show 8 ≤ _; omega), nums_length, show 72 - v.l.length = 64 from rfl, List.getElem?_append_right (by rw [vals_length, h]; omega), vals_length, h]
  rfl

theorem PC_set_many (v : V8) (blk : List UInt8) (m m' : Nat) (h : blk.length = 64) : (PC v blk m).toArray.setIfInBounds 72 (.int .u64 (m' : Int)) = (PC v blk m').toArray := by
  unfold PC
  rw [List.setIfInBounds_toArray, List.set_append_right _ _ (by rw [nums_length]; show 8 ≤ _; omega), nums_length, show 72 - v.l.length = 64 from rfl, List.set_append_right _ _ (by rw [vals_length, h]; omega), vals_length, h]
  rfl

theorem PC_splice (v : V8) (blk : List UInt8) (m : Nat) (h : blk.length = 64) (k : Nat) (l : List UInt8) (hk : k + l.length ≤ 64) :
    (PC v blk m).take (8 + k) ++ (vals l ++ (PC v blk m).drop (8 + k + (vals l).length)) = PC v (splice blk k l) m := by
  unfold PC splice
  have e8 : (nums .u32 v.l).length = 8 := rfl
  rw [List.take_append, List.drop_append, e8, List.take_of_length_le (by rw [e8]; omega), List.drop_eq_nil_of_le (by rw [e8]; omega), show 8 + k - 8 = k by omega, vals_length, show 8 + k + l.length - 8 = k + l.length by omega, List.take_append, List.drop_append, vals_length, h, show k - 64 = 0 by omega, show k + l.length - 64 = 0 by omega]
  simp [vals, List.map_take, List.map_drop]

theorem PC_put (v v' : V8) (blk : List UInt8) (m : Nat) : nums .u32 v'.l ++ (PC v blk m).drop 8 = PC v' blk m := rfl

/-- a press lies there -/
structure PrAt (w : World) (g : Nat) (s : Pst) : Prop where
  row : w.heap[g]? = some (.cells (PC s.v s.blk s.n).toArray 87 (0, 0))
  len : s.blk.length = 64

theorem PrAt.on {w w' : World} {g : Nat} {s : Pst} (h : PrAt w g s) (hb : Below w.heap.size w w') : PrAt w' g s := ⟨(hb.block _ (lt_heap h.row)).trans h.row, h.len⟩

theorem add_add (a : Addr) (n m : Nat) : (a.add n).add m = a.add (n + m) := by
  unfold Addr.add
  by_cases h : n = 0
  · subst h; simp
  · by_cases k : m = 0
    · subst k; simp
    · rw [if_neg h, if_neg k, if_neg (by omega)]
      simp [Nat.add_assoc]

/-- a slice of bytes: nil, or its bytes lie behind its address; and it can be cut -/
def BsC (w : World) (v : Value) (l : List UInt8) : Prop :=
  (v = .slice none 0 0 ∧ l = []) ∨ ∃ ad cap, v = .slice (some ad) l.length cap ∧ l.length ≤ cap ∧ ∀ j u, (vals l)[j]? = some u → w.cell? (ad.add j) = some u

theorem BsC.on {w w' : World} {v : Value} {l : List UInt8} (h : BsC w v l) (hb : Below w.heap.size w w') : BsC w' v l := by
  rcases h with h | ⟨ad, cap, rfl, hc, h⟩
  · exact .inl h
  · exact .inr ⟨ad, cap, rfl, hc, fun j u hu => by
      have := h j u hu
      rw [hb.cell (World.block_lt_of_cell? w _ this)]; exact this⟩

theorem setCells_isSome (w : World) (g k : Nat) (cur : Array Value) (t : TypeId) (hg : w.heap[g]? = some (.cells cur t (0, 0))) (hk : k < cur.size) : (w.cell? ⟨g, k, none⟩).isSome = true := by
  simp [World.cell?, hg, hk]

theorem setCells_row {P : Program} (w : World) (g o : Nat) (vs : List Value) (cur : Array Value) (t : TypeId) (hg : w.heap[g]? = some (.cells cur t (0, 0))) (hl : o + vs.length ≤ cur.size) (h1 : ∀ v ∈ vs, v.oneCell' = true) :
    w.setCells g o vs = w.setRow g (cur.toList.take o ++ vs ++ cur.toList.drop (o + vs.length)).toArray := by
  have a := run_storeCells_at P g o t vs 0 cur w hg (by simpa using hl) h1
  have b := run_storeCells_cells (P := P) g o vs 0 w (fun j hj => setCells_isSome w g (o + 0 + j) cur t hg (by omega)) (fun j hj => by simp [World.frozen?, hg]) h1
  rw [a] at b
  injection b with _ b
  simpa using b.symm

/-- the zero value of a press, cell by cell (where the loader doesn't name it) -/
def zP : Array Value := (List.replicate 8 (Value.int .u32 0) ++ List.replicate 64 (Value.int .u8 0) ++ [Value.int .u64 0]).toArray
theorem zeroP (w : World) : (zeroValue 87).run Tryd.prog w = .ok (.agg zP) w := by kernel_rfl
theorem zP_size : zP.size = 73 := by decide +kernel

set_option maxHeartbeats 2000000 in
set_option maxRecDepth 100000 in
theorem new_any (w : World) (hT : Tabs w) : Calls Tryd.prog 25 #[] w fun e' w' => (∃ g, e' = .returned (.pointer (some ⟨g, 0, none⟩)) ∧ w.heap.size ≤ g ∧ PrAt w' g press0) ∧ Below w.heap.size w w' := by
  have HRG := Lib.hid (show w.rangeAt 1 0 (nums .u32 start.l) from range_of (fun j hj => by rw [Nat.zero_add]; exact hT.s j hj))
  have HSZ := Lib.hid (show (Tryd.prog.info? 84).map (·.size) = some (nums .u32 start.l).length by rw [nums_length]; kernel_rfl)
  have hzP := zeroP
  have hzS := zP_size
  go_enter Tryd.func25, Tryd.ntmps25
  go_wp2_with (with_reducible refine wpList_load_mid rfl 84 (.global 1) rfl 1 0 rfl (nums .u32 start.l) _ HRG.out Tryd.underlying84 rfl HSZ.out ?_)
  first
  | rw [show (List.foldl (fun cs x => cs.setIfInBounds x.snd x.fst) zP (nums IntKind.u32 start.l).zipIdx) = (PC start (List.replicate 64 0) 0).toArray from by kernel_rfl]
  | rw [show (List.foldl (fun cs x => cs.setIfInBounds x.snd x.fst) Tryd.zeroCells87 (nums IntKind.u32 start.l).zipIdx) = (PC start (List.replicate 64 0) 0).toArray from by kernel_rfl]
  go_ret
  exact ⟨⟨w.heap.size, rfl, Nat.le_refl _, ⟨heap_alloc_last w _, rfl⟩⟩, Ve.below_n1 w _⟩

theorem blk_of {w : World} {g : Nat} {s : Pst} {M : Nat} (h : w.heap[g]? = some (.cells (PC s.v s.blk M).toArray 87 (0, 0))) (hl : s.blk.length = 64) : BlkAt w g 8 s.blk := fun j hj => by
  have h1 := PC_blk s.v s.blk M hl j hj
  simp [World.cell?, h, h1]

theorem words_of {w : World} {g : Nat} {v : V8} {blk : List UInt8} {M : Nat} (h : w.heap[g]? = some (.cells (PC v blk M).toArray 87 (0, 0))) : w.rangeAt g 0 (nums .u32 v.l) := range_of (fun j hj => by
  have h1 := PC_words v blk M j hj
  simp [World.cell?, h, h1])

theorem many_of {w : World} {g : Nat} {v : V8} {blk : List UInt8} {M : Nat} (h : w.heap[g]? = some (.cells (PC v blk M).toArray 87 (0, 0))) (hl : blk.length = 64) : w.cell? ⟨g, 72, none⟩ = some (.int .u64 (M : Int)) := by
  have h1 := PC_many v blk M hl
  simp [World.cell?, h, h1]

theorem slice_from (g k : Nat) (hk : k < 64) (W : World) : (Instr.sliceAt 85 (.pointer (some ⟨g, 8, none⟩)) (some (.int .i64 (k : Int))) none none).run Tryd.prog W = .ok (.slice (some ⟨g, 8 + k, none⟩) (64 - k) (64 - k)) W := by
  rw [run_sliceAt_array_l W 85 ⟨g, 8, none⟩ und_blk .i64 _ (by omega) (by rw [len_blk]; omega), size_u8, len_blk]
  simp only [Result.andThen]
  unfold slicedAt
  rw [if_neg (by omega), Nat.mul_one, add_at, Int.toNat_natCast]

theorem size_u8' (W : World) : (sizeOf (Tryd.prog.elem 22)).run Tryd.prog W = .ok 1 W := by
  have h : Tryd.prog.elem 22 = 5 := by kernel_rfl
  have h' : Tryd.prog.elem 85 = 5 := by kernel_rfl
  rw [h, ← h']
  exact size_u8 W

theorem cut_from (ad : Addr) (n cap k : Nat) (hk : k ≤ n) (hc : n ≤ cap) (W : World) : (Instr.slice 22 (.slice (some ad) n cap) (some (.int .i64 (k : Int))) none none).run Tryd.prog W = .ok (.slice (some (if cap = k then ad else ad.add k)) (n - k) (cap - k)) W := by
  rw [run_slice_l (a := some ad) (len := n) (cap := cap) (t := 22) (w := W) (ht := by kernel_rfl) .i64 _ (by omega) (by omega), size_u8']
  simp only [Result.andThen]
  unfold sliced
  simp only [Int.toNat_natCast, Nat.mul_one]
  split <;> rfl

section
variable {P : Program}
theorem step_store_mid {ops : Array Oper} {o : Oper} {a : Act} {w : World} {K : Act → World → Prop} {Q : Exit → Act → World → Prop} {E : Prop} (hgd : o.guard = none) (ty : TypeId) (x y : Operand) (ho : o.op = .store ty x y)
    (b off : Nat) (cells : Array Value) (hx : a.eval x = .pointer (some ⟨b, off, none⟩)) (hy : a.eval y = .agg cells) (ht : w.there b off cells.size) (hi : (P.info? ty).map (·.size) = some cells.size) (h1 : cells.all (·.oneCell') = true)
    (h : K (a.put o.dst undef) (w.setCells b off cells.toList)) : if Region.wanted o (yielded ops a.tmps) = true then Oper.wp P o a w K Q else E := by
  have hw : Region.wanted o (yielded ops a.tmps) = true := by simp [Region.wanted, hgd]
  rw [if_pos hw]
  exact wp_store_mid ty x y ho b off cells hx hy ht hi h1 h
end

theorem there_of {w : World} {g o n : Nat} {cur : Array Value} {t : TypeId} (hg : w.heap[g]? = some (.cells cur t (0, 0))) (h : o + n ≤ cur.size) : w.there g o n := fun j hj =>
  ⟨setCells_isSome w g (o + j) cur t hg (by omega), by simp [World.frozen?, hg]⟩

def lenV : Value → Nat
  | .slice _ n _ => n
  | _ => 0

set_option maxHeartbeats 8000000 in
set_option maxRecDepth 100000 in
theorem take_go (g : Nat) (s : Pst) (ad : Addr) (cap : Nat) (l : List UInt8) (ln : Nat) (w : World) (hP : PrAt w g s) (hln : ln = l.length) (hcap : ln ≤ cap) (hcl : ∀ j u, (vals l)[j]? = some u → w.cell? (ad.add j) = some u) (hne : l ≠ [] → ad.block ≠ g) (hT : Tabs w) (hg0 : 1 ≠ g) (hg2 : 2 ≠ g) (hn : s.n + l.length < 1099511627776) :
    Calls Tryd.prog 39 #[.pointer (some ⟨g, 0, none⟩), .slice (some ad) ln cap] w fun e' w' => e' = .returned (.tuple #[]) ∧ PrAt w' g (feeds s l) ∧ Aw (fun b => b ≠ g) w w' := by
  have HP := Lib.hid hP
  have HT := Lib.hid hT
  have HCL := Lib.hid hcl
  have HNE := Lib.hid hne
  have HG0 := Lib.hid hg0
  have HG2 := Lib.hid hg2
  have HLN := Lib.hid hln
  obtain ⟨n0, hn0⟩ : ∃ n0, s.n = n0 := ⟨_, rfl⟩
  obtain ⟨M, hM⟩ : ∃ M, M = s.n + l.length := ⟨_, rfl⟩
  have hMb : M < 1099511627776 := by omega
  have hnb : n0 < 1099511627776 := by omega
  have hsum : (n0 : Int) + (ln : Int) = (M : Int) := by omega
  have HM := Lib.hid hM
  have HN0 := Lib.hid hn0
  have p72 := many_of hP.row hP.len
  rw [hn0] at p72
  have hfz := row_free hP.row 72
  clear hP hT hcl hne hg0 hg2 hln hn hn0 hM
  go_enter Tryd.func39, Tryd.ntmps39
  go_upto_region 2 with fail
  have hR0 := heap_setCell_same w g 72 _ _ (.int .u64 (M : Int)) HP.out.row
  rw [PC_set_many _ _ _ _ HP.out.len] at hR0
  have hA0 := (Aw.refl (fun b => b ≠ g) w).set (b := g) (by simp) 72 (.int .u64 (M : Int))
  have hc0 : ∀ j u, (vals l)[j]? = some u → (w.setCell ⟨g, 72, none⟩ (.int .u64 (M : Int))).cell? (ad.add j) = some u := fun j u hu => by
    have h1 := HCL.out j u hu
    have hb := HNE.out (fun e => by subst e; simp [vals] at hu)
    rw [World.cell?_of_block (w := w) (Below.heap_setCell _ _ _ _ (by rw [ad_block]; exact hb))]
    exact h1
  obtain ⟨y0, hy0⟩ : ∃ y, w.setCell ⟨g, 72, none⟩ (.int .u64 (M : Int)) = y := ⟨_, rfl⟩
  rw [hy0] at hR0 hA0 hc0 ⊢
  have HR0 := Lib.hid hR0
  have HA0 := Lib.hid hA0
  have HC0 := Lib.hid hc0
  have HK0 := Lib.hid (show (n0 : Int) % 64 = ((s.n % 64 : Nat) : Int) by have := HN0.out; omega)
  clear hy0 hR0 hA0 hc0 p72 hfz
  go_loopw [1, 4] (fun sb sh wr => ∃ (p q : List UInt8) (a' : Addr) (m c' k : Nat), Hid (l = p ++ q) ∧ Hid (m = q.length) ∧ sb = .slice (some a') m c' ∧ m ≤ c' ∧ sh = .int .i64 k ∧ Hid (k = (feeds s p).n % 64) ∧ Hid (wr.heap[g]? = some (.cells (PC (feeds s p).v (feeds s p).blk M).toArray 87 (0, 0))) ∧ Hid (∀ i u, (vals q)[i]? = some u → wr.cell? (a'.add i) = some u) ∧ Hid (q ≠ [] → a'.block ≠ g) ∧ Hid (Aw (fun b => b ≠ g) w wr)) (fun sb _ _ => lenV sb)
  case atStart => exact ⟨[], l, ad, ln, cap, s.n % 64, Lib.hid rfl, HLN, rfl, hcap, by rw [HK0.out], Lib.hid rfl, HR0, HC0, HNE, HA0⟩
  case round =>
    obtain ⟨p, q, a', m, c', k, HPQ, HMQ, rfl, hmc, rfl, HK, HR, HC, HNB, HA⟩ := hrel
    by_cases hm : m = 0
    · have hm0 : ¬ (0 : Int) < (m : Int) := by omega
      have HQ := Lib.hid (show l = p by have := HPQ.out; have h2 := HMQ.out; rw [List.eq_nil_of_length_eq_zero (h2.symm.trans hm), List.append_nil] at this; exact this)
      have HF := Lib.hid (show M = (feeds s p).n by rw [HM.out, ← HQ.out, feeds_n])
      clear hm
      go_wp2
      go_end0
      rw [HQ.out]
      exact ⟨rfl, ⟨by rw [← HF.out]; exact HR.out, (feeds_len s p).trans HP.out.len⟩, HA.out⟩
    · have hm0 : (0 : Int) < (m : Int) := by omega
      have hk64 : k < 64 := by have := HK.out; omega
      have hkb : (k : Int) < 64 := by omega
      have hsf := fun W => slice_from g k hk64 W
      obtain ⟨c, hc⟩ : ∃ c, c = min m (64 - k) := ⟨_, rfl⟩
      have hcm : c ≤ m := by omega
      have hck : k + c ≤ 64 := by omega
      have hc0 : 0 < c := by omega
      have hcf : k + c < 64 → c = m := by omega
      have HMIN := Lib.hid (show c = Nat.min m (64 - k) from hc)
      have hcut := fun W => cut_from a' m c' c hcm hmc W
      obtain ⟨a2, ha2⟩ : ∃ a, a = (if c' = c then a' else a'.add c) := ⟨_, rfl⟩
      obtain ⟨m2, hm2⟩ : ∃ x, x = m - c := ⟨_, rfl⟩
      obtain ⟨c2, hc2⟩ : ∃ x, x = c' - c := ⟨_, rfl⟩
      rw [← ha2, ← hm2, ← hc2] at hcut
      obtain ⟨cs, hcs⟩ : ∃ cs, cs = vals (q.take c) := ⟨_, rfl⟩
      have hcl : cs.length = c := by rw [hcs, vals_length, List.length_take]; have := HMQ.out; omega
      obtain ⟨CUR, hCUR⟩ : ∃ C, C = (PC (feeds s p).v (feeds s p).blk M).toArray := ⟨_, rfl⟩
      have HCU := Lib.hid hCUR
      have HROW := HR
      rw [← hCUR] at HROW
      have HLEN := Lib.hid (show (feeds s p).blk.length = 64 from (feeds_len s p).trans HP.out.len)
      have HFIT := Lib.hid (show 8 + k + cs.length ≤ CUR.size by rw [hcl, hCUR]; simp only [List.size_toArray]; rw [PC_len _ _ _ HLEN.out]; omega)
      have HONE := Lib.hid (show ∀ v ∈ cs, v.oneCell' = true by rw [hcs]; exact vals_one _)
      have HSRC := Lib.hid (show ∀ j v, cs[j]? = some v → wr.cell? (a'.add j) = some v from fun j v hv => HC.out j v (by
        rw [hcs] at hv
        have hj : j < c := by rw [← hcl, hcs]; exact (List.getElem?_eq_some_iff.1 hv).1
        unfold vals at hv ⊢
        rw [List.getElem?_map, List.getElem?_take, if_pos hj] at hv
        rw [List.getElem?_map]
        exact hv))
      have HLC := Lib.hid (show cs.length = Nat.min m (64 - k) by rw [hcl]; exact HMIN.out)
      have HA2 := Lib.hid ha2
      have HM2 := Lib.hid hm2
      have HC2 := Lib.hid hc2
      have HCS := Lib.hid hcs
      clear hcs hc2 hm2 ha2 hCUR hc
      go_upto_region 5 with (with_reducible (refine wpList_copy_own rfl (.tmp 29) (.tmp 30) 22 22 rfl 5 Tryd.underlying22 (by kernel_rfl) g (8 + k) (64 - k) (64 - k) a' m c' rfl rfl CUR 87 HROW.out cs HLC.out HSRC.out HFIT.out HONE.out ?_))
      have hN := setRow_heap wr g _ (List.take (8 + k) CUR.toList ++ (cs ++ List.drop (8 + k + c) CUR.toList)).toArray _ _ HROW.out
      have hOth : ∀ b, b ≠ g → (wr.setRow g (List.take (8 + k) CUR.toList ++ (cs ++ List.drop (8 + k + c) CUR.toList)).toArray).heap[b]? = wr.heap[b]? := fun b hb => setRow_other _ _ _ _ hb
      have hA1 : Aw (fun b => b ≠ g) w (wr.setRow g (List.take (8 + k) CUR.toList ++ (cs ++ List.drop (8 + k + c) CUR.toList)).toArray) := HA.out.trans ⟨rfl, rfl, rfl, by simp [World.setRow], fun b hb _ => hOth b hb⟩
      obtain ⟨y1, hy1⟩ : ∃ y, wr.setRow g (List.take (8 + k) CUR.toList ++ (cs ++ List.drop (8 + k + c) CUR.toList)).toArray = y := ⟨_, rfl⟩
      rw [hy1] at hN hOth hA1 ⊢
      obtain ⟨blk1, hblk⟩ : ∃ b, b = splice (feeds s p).blk k (q.take c) := ⟨_, rfl⟩
      obtain ⟨v1, hv1⟩ : ∃ v, v = (feeds s p).v := ⟨_, rfl⟩
      have htl : (q.take c).length = c := by rw [List.length_take]; have := HMQ.out; omega
      have hEq : (List.take (8 + k) CUR.toList ++ (cs ++ List.drop (8 + k + c) CUR.toList)) = PC v1 blk1 M := by
        rw [HCU.out, HCS.out, hblk, hv1]
        have h1 := PC_splice (feeds s p).v (feeds s p).blk M HLEN.out k (q.take c) (by rw [htl]; exact hck)
        rw [vals_length, htl] at h1
        exact h1
      rw [hEq] at hN
      have hlen1 : blk1.length = 64 := by rw [hblk, length_splice _ _ _ (by rw [HLEN.out, htl]; exact hck)]; exact HLEN.out
      have hcells : ∀ i u, (vals (q.drop c))[i]? = some u → y1.cell? (a2.add i) = some u := fun i u hu => by
        have hqc : c < m := by
          rcases Nat.lt_or_ge c m with h | h
          · exact h
          · rw [List.drop_eq_nil_of_le (by have := HMQ.out; omega)] at hu
            simp [vals] at hu
        have ha : a2 = a'.add c := by rw [HA2.out, if_neg (by omega)]
        rw [ha, add_add]
        have hq : q ≠ [] := fun e => by subst e; have := HMQ.out; simp at this; omega
        have hb : (a'.add (c + i)).block ≠ g := by rw [ad_block]; exact HNB.out hq
        rw [World.cell?_of_block (w := wr) (hOth _ hb)]
        refine HC.out (c + i) u ?_
        unfold vals at hu ⊢
        rw [List.getElem?_map, List.getElem?_drop] at hu
        rw [List.getElem?_map]
        exact hu
      have hnext : q.drop c ≠ [] → a2.block ≠ g := fun h => by
        have hq : q ≠ [] := fun e => by subst e; simp at h
        rw [HA2.out]
        split
        · exact HNB.out hq
        · rw [ad_block]; exact HNB.out hq
      have hfeed : feeds s (p ++ q.take c) = ⟨if k + c = 64 then stir v1 blk1 else v1, blk1, (feeds s p).n + c⟩ := by
        rw [feeds_app]
        have h1 := feeds_chunk (feeds s p) HLEN.out (q.take c) (fun e => by rw [e] at htl; simp at htl; omega) (by rw [htl, ← HK.out]; exact hck)
        rw [h1, htl, ← HK.out, hblk, hv1]
      have HFE := Lib.hid hfeed
      have HN := Lib.hid hN
      have HA1 := Lib.hid hA1
      have HL1 := Lib.hid hlen1
      have HCE := Lib.hid hcells
      have HNX := Lib.hid hnext
      have HQ2 := Lib.hid (show l = (p ++ q.take c) ++ q.drop c by rw [List.append_assoc, List.take_append_drop]; exact HPQ.out)
      have HM22 := Lib.hid (show m2 = (q.drop c).length by rw [HM2.out, List.length_drop, ← HMQ.out])
      have hmc2 : m2 ≤ c2 := by have := HM2.out; have := HC2.out; omega
      have hms : m2 < m := by have := HM2.out; omega
      clear hN hOth hA1 hy1 hEq hlen1 hcells hnext hfeed hblk hv1 htl HR HC HA HROW HCU HCS HSRC HFIT HONE HLC hcut hsf HA2 HC2 HPQ
      obtain ⟨k2, hk2⟩ : ∃ x : Nat, x = k + c := ⟨_, rfl⟩
      have hkc : (k : Int) + (c : Int) = (k2 : Int) := by omega
      have hk2b : k2 ≤ 64 := by omega
      have HK2 := Lib.hid hk2
      rw [← hk2] at HFE
      clear hk2 hck hcf
      by_cases hfull : k2 = 64
      · have heq : ((k2 : Int) == 64) = true := by rw [hfull]; rfl
        have HFULL := Lib.hid hfull
        rw [if_pos hfull] at HFE
        clear hfull
        go_upto_region 7 with fail
        refine Ol.way_drew (S := fun y => y.heap[g]? = some (.cells (PC v1 blk1 M).toArray 87 (0, 0))) (stop := 11) (by kernel_rfl) (HN.out) (fun hS0 => ?_)
        obtain ⟨y2, hy2⟩ : ∃ y, y1.drew = y := ⟨_, rfl⟩
        have hN2 : y2.heap[g]? = some (.cells (PC v1 blk1 M).toArray 87 (0, 0)) := by rw [← hy2]; exact HN.out
        have hA2 : Aw (fun b => b ≠ g) w y2 := by rw [← hy2]; exact HA1.out.trans (Aw.of (Below.refl _ y1).drew)
        have HTB : ∀ y : World, Aw (fun b => b ≠ g) w y → Tabs y := fun y hy => HT.out.keep (hy.block _ HG0.out (World.block_lt_of_cell? _ _ (HT.out.s 0 (by decide)))) (hy.block _ HG2.out (World.block_lt_of_cell? _ _ (HT.out.k 0 (by decide))))
        rw [hy2] at hS0 ⊢
        refine Ol.way_plain (i := 0) (v := ?_) rfl (by kernel_rfl) (by kernel_rfl) (by kernel_rfl) (fun _ _ _ h => h) (by decide) (Or.inl ⟨by kernel_rfl, by (intro wz _; go_simp; try with_reducible rfl)⟩) (Ol.on hS0) ?_
        go_simp
        refine Ol.way_plain (i := 1) (v := ?_) rfl (by kernel_rfl) (by kernel_rfl) (by kernel_rfl) (fun _ _ _ h => h) (by decide) (Or.inl ⟨by kernel_rfl, by (intro wz _; go_simp; try with_reducible rfl)⟩) (Ol.on hS0) ?_
        go_simp
        refine Ol.way_plain (i := 2) (v := ?_) rfl (by kernel_rfl) (by kernel_rfl) (by kernel_rfl) (fun _ _ _ h => h) (by decide) (Or.inl ⟨by kernel_rfl, by (intro wz _; go_simp; try with_reducible rfl)⟩) (Ol.on hS0) ?_
        go_simp
        refine Ol.way_plain (i := 3) (v := ?_) rfl (by kernel_rfl) (by kernel_rfl) (by kernel_rfl) (fun _ _ _ h => h) (by decide) (Or.inl ⟨by kernel_rfl, by (intro wz _; go_simp; try with_reducible rfl)⟩) (Ol.on hS0) ?_
        go_simp
        refine Ol.way_take (i := 4) (v := .agg (nums .u32 v1.l).toArray) rfl (by kernel_rfl) (by kernel_rfl) (by kernel_rfl) (fun _ _ _ h => h) (by decide) (by kernel_rfl) (by kernel_rfl) (yieldsIf_load_mid (by kernel_rfl) 84 (.tmp 43) rfl g 0 rfl (nums .u32 v1.l) _ (fun y hy => words_of hy) Tryd.underlying84 rfl (by rw [nums_length]; kernel_rfl)) hS0 ?_
        go_simp
        refine Ol.way_plain (i := 5) (v := ?_) rfl (by kernel_rfl) (by kernel_rfl) (by kernel_rfl) (fun _ _ _ h => h) (by decide) (Or.inl ⟨by kernel_rfl, by (intro wz _; go_simp; try with_reducible rfl)⟩) (Ol.on hS0) ?_
        go_simp
        refine Ol.way_plain (i := 6) (v := ?_) rfl (by kernel_rfl) (by kernel_rfl) (by kernel_rfl) (fun _ _ _ h => h) (by decide) (Or.inl ⟨by kernel_rfl, by (intro wz _; go_simp; try with_reducible rfl)⟩) (Ol.on hS0) ?_
        go_simp
        refine Ol.way_plain (i := 7) (v := ?_) rfl (by kernel_rfl) (by kernel_rfl) (by kernel_rfl) (fun _ _ _ h => h) (by decide) (Or.inl ⟨by kernel_rfl, by (intro wz _; go_simp; try with_reducible rfl)⟩) (Ol.on hS0) ?_
        go_simp
        refine Ol.way_ready (rs := [8]) (by kernel_rfl) (by simp) ?_
        refine Ol.Each.cons rfl (fun K hK => ?_) Ol.Each.nil
        go_simp
        go_wp2_with (go_at_call 45; refine (stirred_any v1 g 8 blk1 _ (blk_of (s := ⟨v1, blk1, 0⟩) hS0 HL1.out) (lt_heap hS0) (HTB _ hA2)).mono ?_; rintro e y3 ⟨rfl, hb3⟩)
        have hN3 := (hb3.block _ (lt_heap hN2)).trans hN2
        have hA3 := hA2.trans (Aw.of hb3)
        obtain ⟨R8, hR8⟩ : ∃ R, R = (nums .u32 (stir v1 blk1).l).toArray := ⟨_, rfl⟩
        rw [← hR8]
        have HR8 := Lib.hid hR8
        clear hR8
        refine Ol.keep hK _ _ (hN3) (fun hSc => ?_)
        clear hK K
        refine Ol.way_plain (i := 9) (v := ?_) rfl (by kernel_rfl) (by kernel_rfl) (by kernel_rfl) (fun _ _ _ h => h) (by decide) (Or.inl ⟨by kernel_rfl, by (intro wz _; go_simp; try with_reducible rfl)⟩) (Ol.on hSc) ?_
        go_simp
        refine Ol.way_plain (i := 10) (v := ?_) rfl (by kernel_rfl) (by kernel_rfl) (by kernel_rfl) (fun _ _ _ h => h) (by decide) (Or.inl ⟨by kernel_rfl, by (intro wz _; go_simp; try with_reducible rfl)⟩) (Ol.on hSc) ?_
        go_simp
        refine Ol.way_ready (rs := [11]) (by kernel_rfl) (by simp) ?_
        refine Ol.Each.cons rfl (fun K hK => ?_) Ol.Each.nil
        refine step_store_mid rfl 84 (.tmp 50) (.tmp 48) rfl g 0 R8 rfl (by first | rfl | (go_simp; done) | (go_simp; rfl)) (there_of hN3 (by rw [HR8.out]; simp only [List.size_toArray, nums_length]; rw [PC_len _ _ _ HL1.out]; show 0 + 8 ≤ 73; omega)) (by rw [HR8.out]; simp only [List.size_toArray, nums_length]; kernel_rfl) (by rw [HR8.out]; exact all_oneCell_toArray (nums_one _ _)) ?_
        rw [setCells_row (P := Tryd.prog) y3 g 0 R8.toList _ _ hN3 (by rw [HR8.out]; simp only [List.size_toArray, nums_length]; rw [PC_len _ _ _ HL1.out]; show 0 + 8 ≤ 73; omega) (by rw [HR8.out]; exact nums_one _ _)]
        have hN4 := setRow_heap y3 g _ (((PC v1 blk1 M).toArray.toList.take 0 ++ R8.toList ++ (PC v1 blk1 M).toArray.toList.drop (0 + R8.toList.length)).toArray) _ _ hN3
        have hA4 : Aw (fun b => b ≠ g) w (y3.setRow g ((PC v1 blk1 M).toArray.toList.take 0 ++ R8.toList ++ (PC v1 blk1 M).toArray.toList.drop (0 + R8.toList.length)).toArray) := hA3.trans ⟨rfl, rfl, rfl, by simp [World.setRow], fun b hb _ => setRow_other _ _ _ _ hb⟩
        have hOth4 : ∀ b, b ≠ g → (y3.setRow g ((PC v1 blk1 M).toArray.toList.take 0 ++ R8.toList ++ (PC v1 blk1 M).toArray.toList.drop (0 + R8.toList.length)).toArray).heap[b]? = y3.heap[b]? := fun b hb => setRow_other _ _ _ _ hb
        obtain ⟨y4, hy4⟩ : ∃ y, y3.setRow g ((PC v1 blk1 M).toArray.toList.take 0 ++ R8.toList ++ (PC v1 blk1 M).toArray.toList.drop (0 + R8.toList.length)).toArray = y := ⟨_, rfl⟩
        rw [hy4] at hN4 hA4 hOth4 ⊢
        have hEq4 : ((PC v1 blk1 M).toArray.toList.take 0 ++ R8.toList ++ (PC v1 blk1 M).toArray.toList.drop (0 + R8.toList.length)) = PC (stir v1 blk1) blk1 M := by rw [HR8.out]; exact PC_put v1 (stir v1 blk1) blk1 M
        rw [hEq4] at hN4
        refine Ol.past hK (by kernel_rfl) _ _ ?_
        clear hK K
        refine Ol.way_done (by kernel_rfl) ?_ _
        have HKM := Lib.hid (show 0 = (feeds s (p ++ q.take c)).n % 64 by
          rw [HFE.out]; show 0 = ((feeds s p).n + c) % 64; have := HK.out; have := HK2.out; have := HFULL.out; omega)
        have HCE4 := Lib.hid (show ∀ i u, (vals (q.drop c))[i]? = some u → y4.cell? (a2.add i) = some u from fun i u hu => by
          have hb : (a2.add i).block ≠ g := by rw [ad_block]; exact HNX.out (fun e => by rw [e] at hu; simp [vals] at hu)
          have h2 := HCE.out i u hu
          have h3 : y2.cell? (a2.add i) = some u := by rw [← hy2]; exact h2
          rw [World.cell?_of_block (w := y3) (hOth4 _ hb)]
          exact (hb3.cell (World.block_lt_of_cell? _ _ h3)).trans h3)
        go_wp2_with fail
        go_roundw
        case rel => exact ⟨p ++ q.take c, q.drop c, a2, m2, c2, 0, HQ2, HM22, rfl, hmc2, rfl, HKM, by rw [HFE.out]; exact Lib.hid hN4, HCE4, HNX, Lib.hid hA4⟩
        case measure => exact hms
      · have heq : ((k2 : Int) == 64) = false := by
          rw [beq_eq_false_iff_ne]; omega
        rw [if_neg hfull] at HFE
        have HKM := Lib.hid (show k2 = (feeds s (p ++ q.take c)).n % 64 by
          rw [HFE.out]; show k2 = ((feeds s p).n + c) % 64; have := HK.out; have := HK2.out; omega)
        clear hfull
        go_wp2_with fail
        go_roundw
        case rel => exact ⟨p ++ q.take c, q.drop c, a2, m2, c2, k2, HQ2, HM22, rfl, hmc2, by rfl, HKM, by rw [HFE.out]; exact HN, HCE, HNX, HA1⟩
        case measure => exact hms

end Go.Proofs.YtndpidmbfdpiaaaDoor.Se
