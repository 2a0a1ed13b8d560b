/- Layer 22: eight words, stirred with a block, by the program. -/
import Derived.Test.YtndpidmbfdpiaaaDoorK11
import Derived.Test.YtndpidmbfdpiaaaDoorK08
import Derived.ChangeKeysEq
namespace Go.Proofs.YtndpidmbfdpiaaaDoor.Se
open Go Go.RowKit Go.Proofs.YtndpidmbfdpiaaaDoor Go.Proofs.YtndpidmbfdpiaaaDoor.Au Go.Proofs.YtndpidmbfdpiaaaDoor.Re
set_option linter.unusedVariables false
set_option linter.unusedSimpArgs false

/-- eight words -/
structure V8 where
  (a b c d e f g h : Int)

def V8.l (v : V8) : List Int := [v.a, v.b, v.c, v.d, v.e, v.f, v.g, v.h]

def choice (e f g : Int) : Int := bits .xor .u32 (bits .and .u32 e f) (bits .and .u32 (bits .xor .u32 IntKind.u32.max e) g)

def most (a b c : Int) : Int := x3 (bits .and .u32 a b) (bits .and .u32 a c) (bits .and .u32 b c)

def t1 (v : V8) (k w : Int) : Int := wr (wr (wr (wr (v.h + x3 (rotr v.e 6) (rotr v.e 11) (rotr v.e 25)) + choice v.e v.f v.g) + k) + w)

/-- one round -/
def rnd (v : V8) (k w : Int) : V8 :=
  ⟨wr (wr (t1 v k w + x3 (rotr v.a 2) (rotr v.a 13) (rotr v.a 22)) + most v.a v.b v.c), v.a, v.b, v.c, wr (v.d + t1 v k w), v.e, v.f, v.g⟩

def kt : List Int := [1116352408, 1899447441, 3049323471, 3921009573, 961987163, 1508970993, 2453635748, 2870763221, 3624381080, 310598401, 607225278, 1426881987, 1925078388, 2162078206, 2614888103, 3248222580, 3835390401, 4022224774, 264347078, 604807628, 770255983, 1249150122, 1555081692, 1996064986, 2554220882, 2821834349, 2952996808, 3210313671, 3336571891, 3584528711, 113926993, 338241895, 666307205, 773529912, 1294757372, 1396182291, 1695183700, 1986661051, 2177026350, 2456956037, 2730485921, 2820302411, 3259730800, 3345764771, 3516065817, 3600352804, 4094571909, 275423344, 430227734, 506948616, 659060556, 883997877, 958139571, 1322822218, 1537002063, 1747873779, 1955562222, 2024104815, 2227730452, 2361852424, 2428436474, 2756734187, 3204031479, 3329325298]

def start : V8 := ⟨1779033703, 3144134277, 1013904242, 2773480762, 1359893119, 2600822924, 528734635, 1541459225⟩

/-- the words behind n rounds -/
def rn (v : V8) (L : List Int) : Nat → V8
  | 0 => v
  | n + 1 => rnd (rn v L n) (kt.getD n 0) (L.getD n 0)

def add8 (u v : V8) : V8 := ⟨wr (u.a + v.a), wr (u.b + v.b), wr (u.c + v.c), wr (u.d + v.d), wr (u.e + v.e), wr (u.f + v.f), wr (u.g + v.g), wr (u.h + v.h)⟩

/-- the words behind one more block -/
def stir (v : V8) (B : List UInt8) : V8 := add8 v (rn v (sched B 48) 64)

theorem kt_len : kt.length = 64 := rfl

/-- the two variables of the package hold what its text says -/
structure Tabs (w : World) : Prop where
  s : ∀ j, j < 8 → w.cell? ⟨1, j, none⟩ = some (.int .u32 (start.l.getD j 0))
  k : ∀ j, j < 64 → w.cell? ⟨2, j, none⟩ = some (.int .u32 (kt.getD j 0))

theorem Tabs.on {w w' : World} (h : Tabs w) (hb : Below w.heap.size w w') : Tabs w' :=
  ⟨fun j hj => (hb.cell (World.block_lt_of_cell? w _ (h.s j hj))).trans (h.s j hj), fun j hj => (hb.cell (World.block_lt_of_cell? w _ (h.k j hj))).trans (h.k j hj)⟩

theorem Tabs.keep {w w' : World} (h : Tabs w) (hs : w'.heap[(1 : Nat)]? = w.heap[(1 : Nat)]?) (hk : w'.heap[(2 : Nat)]? = w.heap[(2 : Nat)]?) : Tabs w' :=
  ⟨fun j hj => (show w'.cell? ⟨1, j, none⟩ = w.cell? ⟨1, j, none⟩ from World.cell?_of_block (w := w) hs).trans (h.s j hj),
    fun j hj => (show w'.cell? ⟨2, j, none⟩ = w.cell? ⟨2, j, none⟩ from World.cell?_of_block (w := w) hk).trans (h.k j hj)⟩

theorem range_of {w : World} {b o : Nat} {k : IntKind} {l : List Int} (h : ∀ j, j < l.length → w.cell? ⟨b, o + j, none⟩ = some (.int k (l.getD j 0))) : w.rangeAt b o (nums k l) := by
  intro j v hv
  have hj : j < l.length := by
    rcases Nat.lt_or_ge j l.length with h1 | h1
    · exact h1
    · rw [List.getElem?_eq_none (by rw [nums_length]; exact h1)] at hv; cases hv
  rw [nums_at hj] at hv
  cases hv
  exact h j hj

theorem index_nums {T E : TypeId} {n : Nat} {k : IntKind} {l : List Int} (hu : Tryd.prog.underlying T = some (.array n E)) (hi : (Tryd.prog.info? E).map (·.size) = some 1) (he : Tryd.prog.plainKey E = true) (hl : l.length = n) (j : Nat) (hj : j < n) (W : World) : (Instr.index T (.agg (nums k l).toArray) (.int .i64 (j : Int))).run Tryd.prog W = .ok (.int k (l.getD j 0)) W := by
  have h1 := nums_at (k := k) (l := l) (j := j) (by omega)
  cases hq : Tryd.prog.info? E with
  | none => rw [hq] at hi; simp at hi
  | some i =>
    rw [hq] at hi
    simp at hi
    have hs : (sizeOf E).run Tryd.prog W = .ok 1 W := by simp [sizeOf, typeInfo, hq, hi]
    simp only [Instr.index, Sem.run_bind, run_underlying hu, Result.andThen_ok, asIntOf, Sem.run_pure, if_pos (show (0 : Int) ≤ (j : Int) ∧ (j : Int) < (n : Int) by omega), hs, Int.toNat_natCast, Nat.mul_one]
    exact run_part_plain W he (by simpa using h1)

theorem index64 (l : List Int) (hl : l.length = 64) (j : Nat) (hj : j < 64) (W : World) : (Instr.index 29 (.agg (nums .u32 l).toArray) (.int .i64 (j : Int))).run Tryd.prog W = .ok (.int .u32 (l.getD j 0)) W :=
  index_nums Tryd.underlying29 (by kernel_rfl) (by kernel_rfl) hl j hj W

theorem index8 (l : List Int) (hl : l.length = 8) (j : Nat) (hj : j < 8) (W : World) : (Instr.index 28 (.agg (nums .u32 l).toArray) (.int .i64 (j : Int))).run Tryd.prog W = .ok (.int .u32 (l.getD j 0)) W :=
  index_nums Tryd.underlying28 (by kernel_rfl) (by kernel_rfl) hl j hj W

theorem index8w (l : List Int) (hl : l.length = 8) (j : Nat) (hj : j < 8) (W : World) : (Instr.index 84 (.agg (nums .u32 l).toArray) (.int .i64 (j : Int))).run Tryd.prog W = .ok (.int .u32 (l.getD j 0)) W :=
  index_nums (n := 8) (E := 27) (by kernel_rfl) (by kernel_rfl) (by kernel_rfl) hl j hj W

def sums (u v : List Int) (i : Nat) : List Int := (List.range 8).map fun j => if j < i then wr (u.getD j 0 + v.getD j 0) else u.getD j 0

theorem sums_len (u v : List Int) (i : Nat) : (sums u v i).length = 8 := by simp [sums]

theorem sums_set (u v : List Int) (i : Nat) (h : i < 8) : (sums u v i).set i (wr ((sums u v i).getD i 0 + v.getD i 0)) = sums u v (i + 1) := by
  have e : (sums u v i).getD i 0 = u.getD i 0 := by simp [sums, List.getD, h]
  rw [e]
  unfold sums
  apply List.ext_getElem
  · simp
  · intro n h1 h2
    rw [List.getElem_set]
    simp only [List.getElem_map, List.getElem_range]
    by_cases e : i = n
    · subst e; simp
    · rw [if_neg e]
      by_cases h : n < i
      · rw [if_pos h, if_pos (by omega)]
      · rw [if_neg h, if_neg (by omega)]

theorem sums_0 (u v : V8) : sums u.l v.l 0 = u.l := rfl

theorem sums_8 (u v : V8) : sums u.l v.l 8 = (add8 u v).l := rfl

set_option maxHeartbeats 8000000 in
set_option maxRecDepth 100000 in
theorem stirred_go (va vb vc vd ve vf vg vh : Int) (g o : Nat) (B : List UInt8) (w : World) (hB : BlkAt w g o B) (hg : g < w.heap.size) (hT : Tabs w) : Calls Tryd.prog 45 #[.agg #[.int .u32 va, .int .u32 vb, .int .u32 vc, .int .u32 vd, .int .u32 ve, .int .u32 vf, .int .u32 vg, .int .u32 vh], .pointer (some ⟨g, o, none⟩)] w fun e' w' => e' = .returned (.agg (nums .u32 (stir ⟨va, vb, vc, vd, ve, vf, vg, vh⟩ B).l).toArray) ∧ Below w.heap.size w w' := by
  have HB := Lib.hid hB
  have HT := Lib.hid hT
  clear hB hT
  go_enter Tryd.func45, Tryd.ntmps45
  go_upto_region 1 with fail
  have hR := Au.rows2 w (.cells #[.int .u32 va, .int .u32 vb, .int .u32 vc, .int .u32 vd, .int .u32 ve, .int .u32 vf, .int .u32 vg, .int .u32 vh] 84) (.cells #[.int .u32 0, .int .u32 0, .int .u32 0, .int .u32 0, .int .u32 0, .int .u32 0, .int .u32 0, .int .u32 0] 84)
  have HUx := Ve.below_n2 w (.cells #[.int .u32 va, .int .u32 vb, .int .u32 vc, .int .u32 vd, .int .u32 ve, .int .u32 vf, .int .u32 vg, .int .u32 vh] 84) (.cells #[.int .u32 0, .int .u32 0, .int .u32 0, .int .u32 0, .int .u32 0, .int .u32 0, .int .u32 0, .int .u32 0] 84)
  obtain ⟨y0, hy0⟩ : ∃ y0, (w.alloc (.cells #[.int .u32 va, .int .u32 vb, .int .u32 vc, .int .u32 vd, .int .u32 ve, .int .u32 vf, .int .u32 vg, .int .u32 vh] 84)).alloc (.cells #[.int .u32 0, .int .u32 0, .int .u32 0, .int .u32 0, .int .u32 0, .int .u32 0, .int .u32 0, .int .u32 0] 84) = y0 := ⟨_, rfl⟩
  rw [hy0] at hR HUx ⊢
  clear hy0
  obtain ⟨hs0, hr0⟩ := hR
  obtain ⟨q, hqe⟩ : ∃ q, q = w.heap.size := ⟨_, rfl⟩
  obtain ⟨r, hre⟩ : ∃ r, r = w.heap.size + 1 := ⟨_, rfl⟩
  rw [← hre] at hr0 ⊢
  rw [← hqe] at hs0 ⊢
  have hgq : g < q := by omega
  have hqr : q < r := by omega
  have hwq : w.heap.size ≤ q := by omega
  clear hre hqe
  have HU0 := Lib.hid HUx
  clear HUx
  go_wp2_with fail
  refine (schedule_any g o B _ (HB.out.on HU0.out) (by have := HU0.out.size; omega)).mono ?_
  rintro e y1 ⟨rfl, hb1⟩
  obtain ⟨R, hRe⟩ : ∃ R, R = (nums .u32 (sched B 48)).toArray := ⟨_, rfl⟩
  have hRs : R.size = 64 := by rw [hRe]; simp [nums_length, sched_len]
  have hRo : R.all (·.oneCell') = true := by rw [hRe]; exact all_oneCell_toArray (nums_one _ _)
  rw [← hRe]
  have HE := Lib.hid hRe
  have HSZ := Lib.hid (show (Tryd.prog.info? 29).map (·.size) = some R.size by rw [hRs]; kernel_rfl)
  have HZZ := Lib.hid (show Z64.size = R.size by rw [hRs]; rfl)
  have HOO := Lib.hid hRo
  have HAL := Lib.hid (heap_alloc_last y1 (.cells Z64 29))
  clear hRe hRs hRo
  go_upto_region 2 with (refine Au.wpList_store_row rfl 29 (.tmp 5) (.tmp 23) rfl (y1.alloc (.cells Z64 29)) Z64 R y1.heap.size 29 HAL.out rfl rfl HSZ.out HZZ.out HOO.out ?_)
  clear HSZ HZZ HOO
  have hN := setRow_heap _ (y1.heap.size) _ R _ _ HAL.out
  have hbn := Ve.below_n1 y1 (.cells Z64 29)
  have hO : ∀ kk, kk < y1.heap.size → ((y1.alloc (.cells Z64 29)).setRow y1.heap.size R).heap[kk]? = y1.heap[kk]? := fun kk hk => (setRow_other _ _ _ _ (by omega)).trans (hbn.block _ hk)
  have HU1 := Lib.hid (HU0.out.trans (hb1.mono HU0.out.size))
  have HUx := below_setRow (g := y1.heap.size) (HU1.out.trans (hbn.mono HU1.out.size)) (HU1.out.size) R
  obtain ⟨y2, hy2⟩ : ∃ y, (y1.alloc (.cells Z64 29)).setRow y1.heap.size R = y := ⟨_, rfl⟩
  obtain ⟨u, hue⟩ : ∃ u, u = y1.heap.size := ⟨_, rfl⟩
  have hls := lt_heap hs0
  have hlr := lt_heap hr0
  have hru : r < u := by have := hb1.size; omega
  have hs1 := (hb1.block _ hls).trans hs0
  have hr1 := (hb1.block _ hlr).trans hr0
  have hs2 := (hO _ (lt_heap hs1)).trans hs1
  have hr2 := (hO _ (lt_heap hr1)).trans hr1
  rw [hy2] at hN HUx hs2 hr2 ⊢
  rw [← hue] at hN ⊢
  clear hy2 hue hO hbn hs1 hr1 hs0 hr0 hls hlr hb1 HAL HU0 HU1
  have HU2 := Lib.hid HUx
  clear HUx
  rw [HE.out] at hN
  clear HE
  have cs0 := cell_of_row _ _ 0 _ _ _ hs2
  have cs1 := cell_of_row _ _ 1 _ _ _ hs2
  have cs2 := cell_of_row _ _ 2 _ _ _ hs2
  have cs3 := cell_of_row _ _ 3 _ _ _ hs2
  have cs4 := cell_of_row _ _ 4 _ _ _ hs2
  have cs5 := cell_of_row _ _ 5 _ _ _ hs2
  have cs6 := cell_of_row _ _ 6 _ _ _ hs2
  have cs7 := cell_of_row _ _ 7 _ _ _ hs2
  simp at cs0 cs1 cs2 cs3 cs4 cs5 cs6 cs7
  refine wp_region_held_drew (S := fun y => y.heap[q]? = some (.cells #[.int .u32 va, .int .u32 vb, .int .u32 vc, .int .u32 vd, .int .u32 ve, .int .u32 vf, .int .u32 vg, .int .u32 vh] 84 (0, 0))) (by kernel_rfl) (hs2) (fun HS0 => ?_)
  refine wpAnyH_take (i := 0) (v := ?_) rfl (by kernel_rfl) (by kernel_rfl) (by kernel_rfl) (fun _ _ _ h => h) (Or.inl ⟨by kernel_rfl, by (intro wz hSz; go_simp; try with_reducible rfl)⟩) HS0 ?_
  go_simp
  refine wpAnyH_take (i := 1) (v := ?_) rfl (by kernel_rfl) (by kernel_rfl) (by kernel_rfl) (fun _ _ _ h => h) (Or.inl ⟨by kernel_rfl, by (intro wz hSz; have d0 := cell_of_row _ _ 0 _ _ _ hSz; have d1 := cell_of_row _ _ 1 _ _ _ hSz; have d2 := cell_of_row _ _ 2 _ _ _ hSz; have d3 := cell_of_row _ _ 3 _ _ _ hSz; have d4 := cell_of_row _ _ 4 _ _ _ hSz; have d5 := cell_of_row _ _ 5 _ _ _ hSz; have d6 := cell_of_row _ _ 6 _ _ _ hSz; have d7 := cell_of_row _ _ 7 _ _ _ hSz; simp at d0 d1 d2 d3 d4 d5 d6 d7; go_simp; try with_reducible rfl)⟩) HS0 ?_
  go_simp
  refine wpAnyH_take (i := 2) (v := ?_) rfl (by kernel_rfl) (by kernel_rfl) (by kernel_rfl) (fun _ _ _ h => h) (Or.inl ⟨by kernel_rfl, by (intro wz hSz; go_simp; try with_reducible rfl)⟩) HS0 ?_
  go_simp
  refine wpAnyH_take (i := 3) (v := ?_) rfl (by kernel_rfl) (by kernel_rfl) (by kernel_rfl) (fun _ _ _ h => h) (Or.inl ⟨by kernel_rfl, by (intro wz hSz; have d0 := cell_of_row _ _ 0 _ _ _ hSz; have d1 := cell_of_row _ _ 1 _ _ _ hSz; have d2 := cell_of_row _ _ 2 _ _ _ hSz; have d3 := cell_of_row _ _ 3 _ _ _ hSz; have d4 := cell_of_row _ _ 4 _ _ _ hSz; have d5 := cell_of_row _ _ 5 _ _ _ hSz; have d6 := cell_of_row _ _ 6 _ _ _ hSz; have d7 := cell_of_row _ _ 7 _ _ _ hSz; simp at d0 d1 d2 d3 d4 d5 d6 d7; go_simp; try with_reducible rfl)⟩) HS0 ?_
  go_simp
  refine wpAnyH_take (i := 4) (v := ?_) rfl (by kernel_rfl) (by kernel_rfl) (by kernel_rfl) (fun _ _ _ h => h) (Or.inl ⟨by kernel_rfl, by (intro wz hSz; go_simp; try with_reducible rfl)⟩) HS0 ?_
  go_simp
  refine wpAnyH_take (i := 5) (v := ?_) rfl (by kernel_rfl) (by kernel_rfl) (by kernel_rfl) (fun _ _ _ h => h) (Or.inl ⟨by kernel_rfl, by (intro wz hSz; have d0 := cell_of_row _ _ 0 _ _ _ hSz; have d1 := cell_of_row _ _ 1 _ _ _ hSz; have d2 := cell_of_row _ _ 2 _ _ _ hSz; have d3 := cell_of_row _ _ 3 _ _ _ hSz; have d4 := cell_of_row _ _ 4 _ _ _ hSz; have d5 := cell_of_row _ _ 5 _ _ _ hSz; have d6 := cell_of_row _ _ 6 _ _ _ hSz; have d7 := cell_of_row _ _ 7 _ _ _ hSz; simp at d0 d1 d2 d3 d4 d5 d6 d7; go_simp; try with_reducible rfl)⟩) HS0 ?_
  go_simp
  refine wpAnyH_take (i := 6) (v := ?_) rfl (by kernel_rfl) (by kernel_rfl) (by kernel_rfl) (fun _ _ _ h => h) (Or.inl ⟨by kernel_rfl, by (intro wz hSz; go_simp; try with_reducible rfl)⟩) HS0 ?_
  go_simp
  refine wpAnyH_take (i := 7) (v := ?_) rfl (by kernel_rfl) (by kernel_rfl) (by kernel_rfl) (fun _ _ _ h => h) (Or.inl ⟨by kernel_rfl, by (intro wz hSz; have d0 := cell_of_row _ _ 0 _ _ _ hSz; have d1 := cell_of_row _ _ 1 _ _ _ hSz; have d2 := cell_of_row _ _ 2 _ _ _ hSz; have d3 := cell_of_row _ _ 3 _ _ _ hSz; have d4 := cell_of_row _ _ 4 _ _ _ hSz; have d5 := cell_of_row _ _ 5 _ _ _ hSz; have d6 := cell_of_row _ _ 6 _ _ _ hSz; have d7 := cell_of_row _ _ 7 _ _ _ hSz; simp at d0 d1 d2 d3 d4 d5 d6 d7; go_simp; try with_reducible rfl)⟩) HS0 ?_
  go_simp
  refine wpAnyH_take (i := 8) (v := ?_) rfl (by kernel_rfl) (by kernel_rfl) (by kernel_rfl) (fun _ _ _ h => h) (Or.inl ⟨by kernel_rfl, by (intro wz hSz; go_simp; try with_reducible rfl)⟩) HS0 ?_
  go_simp
  refine wpAnyH_take (i := 9) (v := ?_) rfl (by kernel_rfl) (by kernel_rfl) (by kernel_rfl) (fun _ _ _ h => h) (Or.inl ⟨by kernel_rfl, by (intro wz hSz; have d0 := cell_of_row _ _ 0 _ _ _ hSz; have d1 := cell_of_row _ _ 1 _ _ _ hSz; have d2 := cell_of_row _ _ 2 _ _ _ hSz; have d3 := cell_of_row _ _ 3 _ _ _ hSz; have d4 := cell_of_row _ _ 4 _ _ _ hSz; have d5 := cell_of_row _ _ 5 _ _ _ hSz; have d6 := cell_of_row _ _ 6 _ _ _ hSz; have d7 := cell_of_row _ _ 7 _ _ _ hSz; simp at d0 d1 d2 d3 d4 d5 d6 d7; go_simp; try with_reducible rfl)⟩) HS0 ?_
  go_simp
  refine wpAnyH_take (i := 10) (v := ?_) rfl (by kernel_rfl) (by kernel_rfl) (by kernel_rfl) (fun _ _ _ h => h) (Or.inl ⟨by kernel_rfl, by (intro wz hSz; go_simp; try with_reducible rfl)⟩) HS0 ?_
  go_simp
  refine wpAnyH_take (i := 11) (v := ?_) rfl (by kernel_rfl) (by kernel_rfl) (by kernel_rfl) (fun _ _ _ h => h) (Or.inl ⟨by kernel_rfl, by (intro wz hSz; have d0 := cell_of_row _ _ 0 _ _ _ hSz; have d1 := cell_of_row _ _ 1 _ _ _ hSz; have d2 := cell_of_row _ _ 2 _ _ _ hSz; have d3 := cell_of_row _ _ 3 _ _ _ hSz; have d4 := cell_of_row _ _ 4 _ _ _ hSz; have d5 := cell_of_row _ _ 5 _ _ _ hSz; have d6 := cell_of_row _ _ 6 _ _ _ hSz; have d7 := cell_of_row _ _ 7 _ _ _ hSz; simp at d0 d1 d2 d3 d4 d5 d6 d7; go_simp; try with_reducible rfl)⟩) HS0 ?_
  go_simp
  refine wpAnyH_take (i := 12) (v := ?_) rfl (by kernel_rfl) (by kernel_rfl) (by kernel_rfl) (fun _ _ _ h => h) (Or.inl ⟨by kernel_rfl, by (intro wz hSz; go_simp; try with_reducible rfl)⟩) HS0 ?_
  go_simp
  refine wpAnyH_take (i := 13) (v := ?_) rfl (by kernel_rfl) (by kernel_rfl) (by kernel_rfl) (fun _ _ _ h => h) (Or.inl ⟨by kernel_rfl, by (intro wz hSz; have d0 := cell_of_row _ _ 0 _ _ _ hSz; have d1 := cell_of_row _ _ 1 _ _ _ hSz; have d2 := cell_of_row _ _ 2 _ _ _ hSz; have d3 := cell_of_row _ _ 3 _ _ _ hSz; have d4 := cell_of_row _ _ 4 _ _ _ hSz; have d5 := cell_of_row _ _ 5 _ _ _ hSz; have d6 := cell_of_row _ _ 6 _ _ _ hSz; have d7 := cell_of_row _ _ 7 _ _ _ hSz; simp at d0 d1 d2 d3 d4 d5 d6 d7; go_simp; try with_reducible rfl)⟩) HS0 ?_
  go_simp
  refine wpAnyH_take (i := 14) (v := ?_) rfl (by kernel_rfl) (by kernel_rfl) (by kernel_rfl) (fun _ _ _ h => h) (Or.inl ⟨by kernel_rfl, by (intro wz hSz; go_simp; try with_reducible rfl)⟩) HS0 ?_
  go_simp
  refine wpAnyH_take (i := 15) (v := ?_) rfl (by kernel_rfl) (by kernel_rfl) (by kernel_rfl) (fun _ _ _ h => h) (Or.inl ⟨by kernel_rfl, by (intro wz hSz; have d0 := cell_of_row _ _ 0 _ _ _ hSz; have d1 := cell_of_row _ _ 1 _ _ _ hSz; have d2 := cell_of_row _ _ 2 _ _ _ hSz; have d3 := cell_of_row _ _ 3 _ _ _ hSz; have d4 := cell_of_row _ _ 4 _ _ _ hSz; have d5 := cell_of_row _ _ 5 _ _ _ hSz; have d6 := cell_of_row _ _ 6 _ _ _ hSz; have d7 := cell_of_row _ _ 7 _ _ _ hSz; simp at d0 d1 d2 d3 d4 d5 d6 d7; go_simp; try with_reducible rfl)⟩) HS0 ?_
  go_simp
  refine wpAnyH_take (i := 16) (v := ?_) rfl (by kernel_rfl) (by kernel_rfl) (by kernel_rfl) (fun _ _ _ h => h) (Or.inl ⟨by kernel_rfl, by (intro wz hSz; go_simp; try with_reducible rfl)⟩) HS0 ?_
  go_simp
  refine wpAnyH_take (i := 17) (v := ?_) rfl (by kernel_rfl) (by kernel_rfl) (by kernel_rfl) (fun _ _ _ h => h) (Or.inl ⟨by kernel_rfl, by (intro wz hSz; go_simp; try with_reducible rfl)⟩) HS0 ?_
  go_simp
  refine wpAnyH_take (i := 18) (v := ?_) rfl (by kernel_rfl) (by kernel_rfl) (by kernel_rfl) (fun _ _ _ h => h) (Or.inl ⟨by kernel_rfl, by (intro wz hSz; go_simp; try with_reducible rfl)⟩) HS0 ?_
  go_simp
  refine wpAnyH_take (i := 19) (v := ?_) rfl (by kernel_rfl) (by kernel_rfl) (by kernel_rfl) (fun _ _ _ h => h) (Or.inl ⟨by kernel_rfl, by (intro wz hSz; go_simp; try with_reducible rfl)⟩) HS0 ?_
  go_simp
  refine wpAnyH_take (i := 20) (v := ?_) rfl (by kernel_rfl) (by kernel_rfl) (by kernel_rfl) (fun _ _ _ h => h) (Or.inl ⟨by kernel_rfl, by (intro wz hSz; go_simp; try with_reducible rfl)⟩) HS0 ?_
  go_simp
  refine wpAnyH_take (i := 21) (v := ?_) rfl (by kernel_rfl) (by kernel_rfl) (by kernel_rfl) (fun _ _ _ h => h) (Or.inl ⟨by kernel_rfl, by (intro wz hSz; go_simp; try with_reducible rfl)⟩) HS0 ?_
  go_simp
  refine wpAnyH_take (i := 22) (v := ?_) rfl (by kernel_rfl) (by kernel_rfl) (by kernel_rfl) (fun _ _ _ h => h) (Or.inl ⟨by kernel_rfl, by (intro wz hSz; go_simp; try with_reducible rfl)⟩) HS0 ?_
  go_simp
  refine wpAnyH_take (i := 23) (v := ?_) rfl (by kernel_rfl) (by kernel_rfl) (by kernel_rfl) (fun _ _ _ h => h) (Or.inl ⟨by kernel_rfl, by (intro wz hSz; go_simp; try with_reducible rfl)⟩) HS0 ?_
  go_simp
  refine wpAnyH_done (by kernel_rfl) ?_ _
  obtain ⟨y3, hy3⟩ : ∃ y, y2.drew = y := ⟨_, rfl⟩
  have hu3 : y3.heap[u]? = some (.cells (nums .u32 (sched B 48)).toArray 29 (0, 0)) := by rw [← hy3]; exact hN
  have hs3 : y3.heap[q]? = some (.cells #[.int .u32 va, .int .u32 vb, .int .u32 vc, .int .u32 vd, .int .u32 ve, .int .u32 vf, .int .u32 vg, .int .u32 vh] 84 (0, 0)) := by rw [← hy3]; exact hs2
  have hr3 : y3.heap[r]? = some (.cells #[.int .u32 0, .int .u32 0, .int .u32 0, .int .u32 0, .int .u32 0, .int .u32 0, .int .u32 0, .int .u32 0] 84 (0, 0)) := by rw [← hy3]; exact hr2
  have HU3 := Lib.hid (show Below w.heap.size w y3 by rw [← hy3]; exact HU2.out.drew)
  rw [hy3]
  clear hy3 hs2 hr2 HU2 cs0 cs1 cs2 cs3 cs4 cs5 cs6 cs7 HS0
  have HRG := Lib.hid (show y3.rangeAt 2 0 (nums .u32 kt) from range_of (fun j hj => by rw [Nat.zero_add]; exact (HT.out.on HU3.out).k j hj))
  have HSZ := Lib.hid (show (Tryd.prog.info? 29).map (·.size) = some (nums .u32 kt).length by rw [nums_length]; kernel_rfl)
  go_wp2_with (with_reducible refine wpList_load_mid rfl 29 (.global 2) rfl 2 0 rfl (nums .u32 kt) _ HRG.out Tryd.underlying29 rfl HSZ.out ?_)
  clear HRG HSZ
  have HV0 := Lib.hid (show rn ⟨va, vb, vc, vd, ve, vf, vg, vh⟩ (sched B 48) 0 = ⟨va, vb, vc, vd, ve, vf, vg, vh⟩ from rfl)
  go_loopw [41, 6, 7, 8, 9, 10, 11, 12, 13] (fun i sa sb sc sd se sf sg sh wr => ∃ (n : Nat) (V : V8), n ≤ 64 ∧ i = .int .i64 n ∧ sa = .int .u32 V.a ∧ sb = .int .u32 V.b ∧ sc = .int .u32 V.c ∧ sd = .int .u32 V.d ∧ se = .int .u32 V.e ∧ sf = .int .u32 V.f ∧ sg = .int .u32 V.g ∧ sh = .int .u32 V.h ∧ Hid (rn ⟨va, vb, vc, vd, ve, vf, vg, vh⟩ (sched B 48) n = V) ∧ Hid (wr.heap[u]? = some (.cells (nums .u32 (sched B 48)).toArray 29 (0, 0))) ∧ Hid (wr.heap[q]? = some (.cells #[.int .u32 va, .int .u32 vb, .int .u32 vc, .int .u32 vd, .int .u32 ve, .int .u32 vf, .int .u32 vg, .int .u32 vh] 84 (0, 0))) ∧ Hid (wr.heap[r]? = some (.cells #[.int .u32 0, .int .u32 0, .int .u32 0, .int .u32 0, .int .u32 0, .int .u32 0, .int .u32 0, .int .u32 0] 84 (0, 0))) ∧ Hid (Below w.heap.size w wr)) (fun i _ _ _ _ _ _ _ _ _ => 64 - (intOf i).toNat)
  case atStart => exact ⟨0, ⟨va, vb, vc, vd, ve, vf, vg, vh⟩, by omega, rfl, rfl, rfl, rfl, rfl, rfl, rfl, rfl, rfl, HV0, Lib.hid hu3, Lib.hid hs3, Lib.hid hr3, HU3⟩
  case round =>
    obtain ⟨n, ⟨xa, xb, xc, xd, xe, xf, xg, xh⟩, hn, rfl, rfl, rfl, rfl, rfl, rfl, rfl, rfl, rfl, HV, HW, HS, HR, HU⟩ := hrel
    dsimp only
    by_cases hlt : n < 64
    · have hlt' : (n : Int) < 64 := by omega
      obtain ⟨xk, HXK⟩ : ∃ x, Hid (x = kt.getD n 0) := ⟨_, Lib.hid rfl⟩
      obtain ⟨xw, HXW⟩ : ∃ x, Hid (x = (sched B 48).getD n 0) := ⟨_, Lib.hid rfl⟩
      have hix : ∀ W, (Instr.index 29 (.agg (nums .u32 kt).toArray) (.int .i64 (n : Int))).run Tryd.prog W = .ok (.int .u32 xk) W := fun W => by rw [HXK.out]; exact index64 kt rfl n hlt W
      go_wp2_with fail
      clear hix
      have hwn : (n : Int) < 64 := by omega
      have hwu := HW.out
      have hws := HS.out
      have hwr := HR.out
      have hwU := HU.out
      have HXL := Lib.hid (show n < (sched B 48).length by rw [sched_len]; exact hlt)
      refine wp_region_held_drew (S := fun y => y.heap[u]? = some (.cells (nums .u32 (sched B 48)).toArray 29 (0, 0))) (by kernel_rfl) (hwu) (fun hS0 => ?_)
      obtain ⟨y4, hy4⟩ : ∃ y, wr.drew = y := ⟨_, rfl⟩
      have hu4 : y4.heap[u]? = some (.cells (nums .u32 (sched B 48)).toArray 29 (0, 0)) := by rw [← hy4]; exact hwu
      have hs4 : y4.heap[q]? = some (.cells #[.int .u32 va, .int .u32 vb, .int .u32 vc, .int .u32 vd, .int .u32 ve, .int .u32 vf, .int .u32 vg, .int .u32 vh] 84 (0, 0)) := by rw [← hy4]; exact hws
      have hr4 : y4.heap[r]? = some (.cells #[.int .u32 0, .int .u32 0, .int .u32 0, .int .u32 0, .int .u32 0, .int .u32 0, .int .u32 0, .int .u32 0] 84 (0, 0)) := by rw [← hy4]; exact hwr
      have HU4 := Lib.hid (show Below w.heap.size w y4 by rw [← hy4]; exact hwU.drew)
      rw [hy4] at hS0 ⊢
      clear hy4 hwu hws hwr hwU
      refine wpAnyH_take (i := 0) (v := ?_) rfl (by kernel_rfl) (by kernel_rfl) (by kernel_rfl) (fun _ _ _ h => h) (Or.inl ⟨by kernel_rfl, by (intro wz hSz; go_simp; try with_reducible rfl)⟩) hS0 ?_
      go_simp
      refine wpAnyH_take (i := 1) (v := ?_) rfl (by kernel_rfl) (by kernel_rfl) (by kernel_rfl) (fun _ _ _ h => h) (Or.inl ⟨by kernel_rfl, by (intro wz hSz; go_simp; try with_reducible rfl)⟩) hS0 ?_
      go_simp
      refine wpAnyH_take (i := 4) (v := ?_) rfl (by kernel_rfl) (by kernel_rfl) (by kernel_rfl) (fun _ _ _ h => h) (Or.inl ⟨by kernel_rfl, by (intro wz hSz; go_simp; try with_reducible rfl)⟩) hS0 ?_
      go_simp
      refine wpAnyH_take (i := 6) (v := ?_) rfl (by kernel_rfl) (by kernel_rfl) (by kernel_rfl) (fun _ _ _ h => h) (Or.inl ⟨by kernel_rfl, by (intro wz hSz; go_simp; try with_reducible rfl)⟩) hS0 ?_
      go_simp
      refine wpAnyH_take (i := 8) (v := ?_) rfl (by kernel_rfl) (by kernel_rfl) (by kernel_rfl) (fun _ _ _ h => h) (Or.inl ⟨by kernel_rfl, by (intro wz hSz; go_simp; try with_reducible rfl)⟩) hS0 ?_
      go_simp
      refine wpAnyH_take (i := 9) (v := ?_) rfl (by kernel_rfl) (by kernel_rfl) (by kernel_rfl) (fun _ _ _ h => h) (Or.inl ⟨by kernel_rfl, by (intro wz hSz; go_simp; try with_reducible rfl)⟩) hS0 ?_
      go_simp
      refine wpAnyH_take (i := 10) (v := ?_) rfl (by kernel_rfl) (by kernel_rfl) (by kernel_rfl) (fun _ _ _ h => h) (Or.inl ⟨by kernel_rfl, by (intro wz hSz; have pz : wz.cell? ⟨u, n, none⟩ = some (.int .u32 xw) := (by rw [HXW.out]; exact row_at hSz HXL.out); go_simp; try with_reducible rfl)⟩) hS0 ?_
      go_simp
      refine wpAnyH_ready (rs := [2]) (by kernel_rfl) (by simp) ?_
      refine AllReadyH.cons rfl (fun K hK => ?_) AllReadyH.nil
      go_simp
      go_wp2_with (go_at_call 50; refine (turned_a _ _).mono ?_; rintro e ww ⟨rfl, rfl⟩)
      refine hK.out _ _ (hS0) (fun hSc => ?_)
      clear hK K
      refine wpAnyH_take (i := 3) (v := ?_) rfl (by kernel_rfl) (by kernel_rfl) (by kernel_rfl) (fun _ _ _ h => h) (Or.inl ⟨by kernel_rfl, by (intro wz hSz; go_simp; try with_reducible rfl)⟩) hSc ?_
      go_simp
      refine wpAnyH_take (i := 5) (v := ?_) rfl (by kernel_rfl) (by kernel_rfl) (by kernel_rfl) (fun _ _ _ h => h) (Or.inl ⟨by kernel_rfl, by (intro wz hSz; go_simp; try with_reducible rfl)⟩) hSc ?_
      go_simp
      refine wpAnyH_take (i := 7) (v := ?_) rfl (by kernel_rfl) (by kernel_rfl) (by kernel_rfl) (fun _ _ _ h => h) (Or.inl ⟨by kernel_rfl, by (intro wz hSz; go_simp; try with_reducible rfl)⟩) hSc ?_
      go_simp
      refine wpAnyH_take (i := 11) (v := ?_) rfl (by kernel_rfl) (by kernel_rfl) (by kernel_rfl) (fun _ _ _ h => h) (Or.inl ⟨by kernel_rfl, by (intro wz hSz; go_simp; try with_reducible rfl)⟩) hSc ?_
      go_simp
      refine wpAnyH_take (i := 12) (v := ?_) rfl (by kernel_rfl) (by kernel_rfl) (by kernel_rfl) (fun _ _ _ h => h) (Or.inl ⟨by kernel_rfl, by (intro wz hSz; go_simp; try with_reducible rfl)⟩) hSc ?_
      go_simp
      refine wpAnyH_done (by kernel_rfl) ?_ _
      go_upto_region 9 with fail
      have HT1 := Lib.hid (show IntKind.u32.wrap (IntKind.u32.wrap (IntKind.u32.wrap (IntKind.u32.wrap (xh + x3 (rotr xe 6) (rotr xe 11) (rotr xe 25)) + bits .xor .u32 (bits .and .u32 xe xf) (bits .and .u32 (bits .xor .u32 IntKind.u32.max xe) xg)) + xk) + xw) = t1 (⟨xa, xb, xc, xd, xe, xf, xg, xh⟩ : V8) xk xw by simp only [IntKind.wrap_u32']; rfl)
      rw [HT1.out]
      obtain ⟨tt, HTT⟩ : ∃ t, Hid (t = t1 (⟨xa, xb, xc, xd, xe, xf, xg, xh⟩ : V8) xk xw) := ⟨_, Lib.hid rfl⟩
      rw [← HTT.out]
      clear HT1
      go_wp2_with (go_at_call 50; refine (turned_b _ _).mono ?_; rintro e ww ⟨rfl, rfl⟩)
      go_roundw
      case rel =>
        refine ⟨n + 1, rnd (⟨xa, xb, xc, xd, xe, xf, xg, xh⟩ : V8) xk xw, by omega, by go_num, ?_, rfl, rfl, rfl, ?_, rfl, rfl, rfl, Lib.hid ?_, Lib.hid hu4, Lib.hid hs4, Lib.hid hr4, HU4⟩
        · rw [HTT.out]; rfl
        · rw [HTT.out]; rfl
        · rw [HXK.out, HXW.out, ← HV.out]; rfl
      case measure => simp [intOf]; omega
    · have hge : ¬ (n : Int) < 64 := by omega
      have HN64 := Lib.hid (show n = 64 by omega)
      go_upto_region 12 with fail
      have hN := heap_alloc_last wr (.cells #[.int .u32 xa, .int .u32 xb, .int .u32 xc, .int .u32 xd, .int .u32 xe, .int .u32 xf, .int .u32 xg, .int .u32 xh] 84)
      have hbn := Ve.below_n1 wr (.cells #[.int .u32 xa, .int .u32 xb, .int .u32 xc, .int .u32 xd, .int .u32 xe, .int .u32 xf, .int .u32 xg, .int .u32 xh] 84)
      obtain ⟨y5, hy5⟩ : ∃ y, wr.alloc (.cells #[.int .u32 xa, .int .u32 xb, .int .u32 xc, .int .u32 xd, .int .u32 xe, .int .u32 xf, .int .u32 xg, .int .u32 xh] 84) = y := ⟨_, rfl⟩
      have hlu := HU.out.size
      obtain ⟨z, hz⟩ : ∃ z, z = wr.heap.size := ⟨_, rfl⟩
      have hqz : q < z := by rw [hz]; exact lt_heap HS.out
      have hrz : r < z := by rw [hz]; exact lt_heap HR.out
      have hs5 := (hbn.block _ (lt_heap HS.out)).trans HS.out
      have hr5 := (hbn.block _ (lt_heap HR.out)).trans HR.out
      have HU5 := Lib.hid (HU.out.trans (hbn.mono HU.out.size))
      rw [hy5] at hN hs5 hr5 HU5 ⊢
      rw [← hz] at hN ⊢
      clear hy5 hz hbn HS HR HU HW hlu
      have p0 := cell_of_row _ _ 0 _ _ _ hN
      have p1 := cell_of_row _ _ 1 _ _ _ hN
      have p2 := cell_of_row _ _ 2 _ _ _ hN
      have p3 := cell_of_row _ _ 3 _ _ _ hN
      have p4 := cell_of_row _ _ 4 _ _ _ hN
      have p5 := cell_of_row _ _ 5 _ _ _ hN
      have p6 := cell_of_row _ _ 6 _ _ _ hN
      have p7 := cell_of_row _ _ 7 _ _ _ hN
      simp at p0 p1 p2 p3 p4 p5 p6 p7
      go_wp2_with fail
      clear p0 p1 p2 p3 p4 p5 p6 p7
      have HRR := Lib.hid hr5
      have HUU := Lib.hid HU5.out
      go_loopw [102] (fun j wr => ∃ i : Nat, i ≤ 8 ∧ j = .int .i64 i ∧ Hid (wr.heap[q]? = some (.cells (nums .u32 (sums [va, vb, vc, vd, ve, vf, vg, vh] [xa, xb, xc, xd, xe, xf, xg, xh] i)).toArray 84 (0, 0))) ∧ Hid (wr.heap[r]? = some (.cells #[.int .u32 0, .int .u32 0, .int .u32 0, .int .u32 0, .int .u32 0, .int .u32 0, .int .u32 0, .int .u32 0] 84 (0, 0))) ∧ Hid (Below w.heap.size w wr)) (fun j _ => 8 - (intOf j).toNat)
      case atStart => exact ⟨0, by omega, rfl, Lib.hid (by rw [show (nums .u32 (sums [va, vb, vc, vd, ve, vf, vg, vh] [xa, xb, xc, xd, xe, xf, xg, xh] 0)).toArray = #[.int .u32 va, .int .u32 vb, .int .u32 vc, .int .u32 vd, .int .u32 ve, .int .u32 vf, .int .u32 vg, .int .u32 vh] from rfl]; exact hs5), HRR, HUU⟩
      case round =>
        obtain ⟨i, hi, rfl, HS6, HR6, HU6⟩ := hrel
        by_cases hli : i < 8
        · have hli' : (i : Int) < 8 := by omega
          obtain ⟨xs, HXS⟩ : ∃ x, Hid (x = ([xa, xb, xc, xd, xe, xf, xg, xh] : List Int).getD i 0) := ⟨_, Lib.hid rfl⟩
          obtain ⟨ys, HYS⟩ : ∃ x, Hid (x = (sums [va, vb, vc, vd, ve, vf, vg, vh] [xa, xb, xc, xd, xe, xf, xg, xh] i).getD i 0) := ⟨_, Lib.hid rfl⟩
          have hix : ∀ W, (Instr.index 84 (.agg #[.int .u32 xa, .int .u32 xb, .int .u32 xc, .int .u32 xd, .int .u32 xe, .int .u32 xf, .int .u32 xg, .int .u32 xh]) (.int .i64 (i : Int))).run Tryd.prog W = .ok (.int .u32 xs) W := fun W => by rw [HXS.out]; exact index8w [xa, xb, xc, xd, xe, xf, xg, xh] rfl i hli W
          have hpc : (World.cell? wr ⟨q, i, none⟩) = some (.int .u32 ys) := by rw [HYS.out]; exact row_at HS6.out (by rw [sums_len]; exact hli)
          have hpf := row_free HS6.out i
          go_wp2_with fail
          go_roundw
          case rel =>
            refine ⟨i + 1, by omega, by go_num, Lib.hid ?_, Lib.hid ?_, Lib.hid ?_⟩
            · rw [← sums_set [va, vb, vc, vd, ve, vf, vg, vh] [xa, xb, xc, xd, xe, xf, xg, xh] i hli, ← HYS.out, ← HXS.out]
              exact row_put HS6.out i _
            · exact (Below.heap_setCell _ _ _ _ (by show r ≠ q; omega)).trans HR6.out
            · exact HU6.out.setCell (by show w.heap.size ≤ q; omega) _
          case measure => simp [intOf]; omega
        · have hge8 : ¬ (i : Int) < 8 := by omega
          have hQ : wr.heap[q]? = some (.cells (nums .u32 (sums [va, vb, vc, vd, ve, vf, vg, vh] [xa, xb, xc, xd, xe, xf, xg, xh] 8)).toArray 84 (0, 0)) := by have := HS6.out; rwa [show i = 8 by omega] at this
          obtain ⟨R2, hRe⟩ : ∃ R, R = (nums .u32 (sums [va, vb, vc, vd, ve, vf, vg, vh] [xa, xb, xc, xd, xe, xf, xg, xh] 8)).toArray := ⟨_, rfl⟩
          have hRs : R2.size = 8 := by rw [hRe]; simp [nums_length, sums_len]
          have hRo : R2.all (·.oneCell') = true := by rw [hRe]; exact all_oneCell_toArray (nums_one _ _)
          rw [← hRe] at hQ
          have HE := Lib.hid hRe
          have HQ3 := Lib.hid hQ
          have HSZ := Lib.hid (show (Tryd.prog.info? 84).map (·.size) = some R2.size by rw [hRs]; kernel_rfl)
          have HZZ := Lib.hid (show (#[.int .u32 0, .int .u32 0, .int .u32 0, .int .u32 0, .int .u32 0, .int .u32 0, .int .u32 0, .int .u32 0] : Array Value).size = R2.size by rw [hRs]; rfl)
          have HOO := Lib.hid hRo
          clear hQ hRe hRs hRo HS6
          go_wp2_with (first | (with_reducible refine wpList_load_row rfl 84 (.tmp 2) rfl q rfl 84 R2 (0, 0) _ HQ3.out Tryd.underlying84 rfl HSZ.out ?_) | (refine Au.wpList_store_row rfl 84 (.tmp 4) (.tmp 113) rfl wr #[.int .u32 0, .int .u32 0, .int .u32 0, .int .u32 0, .int .u32 0, .int .u32 0, .int .u32 0, .int .u32 0] R2 r 84 HR6.out rfl rfl HSZ.out HZZ.out HOO.out ?_))
          have hN2 := setRow_heap wr r _ R2 _ _ HR6.out
          have hFin : (nums .u32 (sums [va, vb, vc, vd, ve, vf, vg, vh] [xa, xb, xc, xd, xe, xf, xg, xh] 8)).toArray = (nums .u32 (stir ⟨va, vb, vc, vd, ve, vf, vg, vh⟩ B).l).toArray := by
            have e := HV.out
            rw [show n = 64 from HN64.out] at e
            rw [show stir ⟨va, vb, vc, vd, ve, vf, vg, vh⟩ B = add8 ⟨va, vb, vc, vd, ve, vf, vg, vh⟩ (rn ⟨va, vb, vc, vd, ve, vf, vg, vh⟩ (sched B 48) 64) from rfl, e]
            rfl
          exact bodyPost_ret (v := .agg R2) (results_cell_row Tryd.results45 _ _ r 84 R2 (0, 0) _ rfl hN2 Tryd.underlying84 rfl HSZ.out) rfl ⟨by rw [HE.out, hFin], below_setRow (g := r) HU6.out (by omega) R2⟩

end Go.Proofs.YtndpidmbfdpiaaaDoor.Se
