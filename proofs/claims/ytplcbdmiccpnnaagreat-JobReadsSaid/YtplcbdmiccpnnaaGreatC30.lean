/- Jobs: a whole scene, read off a reader, by the program. -/
import Derived.Test.YtplcbdmiccpnnaaGreatC28
import Derived.Test.YtplcbdmiccpnnaaGreatC29
import Derived.Test.YtplcbdmiccpnnaaGreatC18
namespace Go.Proofs.YtplcbdmiccpnnaaGreat.Jb
open Go.RowKit Go.Proofs.YtplcbdmiccpnnaaGreat Go.Proofs.YtplcbdmiccpnnaaGreat.Rp Go.Proofs.YtplcbdmiccpnnaaGreat.Re Go.Proofs.YtplcbdmiccpnnaaGreat.Au Go.Proofs.YtplcbdmiccpnnaaGreat.Sc
set_option linter.unusedVariables false
set_option linter.unusedSimpArgs false

/-- as LP and TL, of any blocks that stay -/
theorem LP.all {c base : Nat} {e : TypeId} {w w' : World} {a : Option Addr} {n : Nat} {L : Nat → Int} (h : LP c e base w a n L) (hk : ∀ k, base ≤ k → w'.heap[k]? = w.heap[k]?) : LP c e base w' a n L := h.heap fun k _ _ h1 _ => hk k h1

def Lie (c : Nat) (e : TypeId) (base : Nat) (a : Option Addr) (n : Nat) (L : Nat → Int) (w : World) : Prop := LP c e base w a n L

theorem Lie.aft {c base g : Nat} {e : TypeId} {w w' : World} {a : Option Addr} {n : Nat} {L : Nat → Int} (h : Lie c e base a n L w) (ha : Aft g w.heap.size w w') (hg : g < base) : Lie c e base a n L w' := LP.aft h ha hg

theorem Lie.heap {c base : Nat} {e : TypeId} {w w' : World} {a : Option Addr} {n : Nat} {L : Nat → Int} (h : Lie c e base a n L w) (hk : ∀ k, base ≤ k → w'.heap[k]? = w.heap[k]?) : Lie c e base a n L w' := LP.all h hk

def LieT (base : Nat) (a : Option Addr) (n : Nat) (s : St) (w : World) : Prop :=
  n = 0 ∨ ∃ b, a = some ⟨b, 0, none⟩ ∧ base ≤ b ∧ (∃ cs fr, w.heap[b]? = some (.cells cs 94 fr)) ∧ ∀ i, i < n → ∃ ka kc, w.cell? ⟨b, i * 2, none⟩ = some (.int .i64 (trackW (itS trackE s i))) ∧ w.cell? ⟨b, i * 2 + 1, none⟩ = some (.slice ka (trackN (itS trackE s i)) kc) ∧ LP 4 137 base w ka (trackN (itS trackE s i)) (trackK (itS trackE s i))

theorem LieT.block {base : Nat} {w w' : World} {a : Option Addr} {n : Nat} {s : St} (h : LieT base a n s w) (hk : ∀ k cs t fr, base ≤ k → w.heap[k]? = some (.cells cs t fr) → w'.heap[k]? = w.heap[k]?) : LieT base a n s w' := by
  rcases h with h | ⟨b, rfl, h1, ⟨cs, fr, h2⟩, h3⟩
  · exact .inl h
  · have hb := hk b cs _ fr h1 h2
    refine .inr ⟨b, rfl, h1, ⟨cs, fr, hb.trans h2⟩, fun i hi => ?_⟩
    obtain ⟨ka, kc, q1, q2, q3⟩ := h3 i hi
    exact ⟨ka, kc, (show w'.cell? ⟨b, i * 2, none⟩ = w.cell? ⟨b, i * 2, none⟩ from World.cell?_of_block (w := w) hb).trans q1, (show w'.cell? ⟨b, i * 2 + 1, none⟩ = w.cell? ⟨b, i * 2 + 1, none⟩ from World.cell?_of_block (w := w) hb).trans q2, q3.heap fun k cs fr a b => hk k cs _ fr a b⟩

theorem LieT.aft {base g : Nat} {w w' : World} {a : Option Addr} {n : Nat} {s : St} (h : LieT base a n s w) (ha : Aft g w.heap.size w w') (hg : g < base) : LieT base a n s w' :=
  h.block fun k cs t fr h1 h2 => ha.block k (lt_of_heap h2) (lt_of_heap h2) (by omega)

theorem LieT.heap {base : Nat} {w w' : World} {a : Option Addr} {n : Nat} {s : St} (h : LieT base a n s w) (hk : ∀ k, base ≤ k → w'.heap[k]? = w.heap[k]?) : LieT base a n s w' :=
  h.block fun k _ _ _ h1 _ => hk k h1

/-- what is read of the header, and the state behind it -/
def headerE (s : St) : St := (threeS ((numS ((fixS ((numS ((numS ((numS ((numS ((numS (s) 2).2) 2).2) 2).2) 2).2) 2).2)).2) 8).2)).2
def headerV0 (s : St) : Int := (((numS (s) 2).1 : Int))
def headerV1 (s : St) : Int := (((numS ((numS (s) 2).2) 2).1 : Int))
def headerV2 (s : St) : Int := (((numS ((numS ((numS (s) 2).2) 2).2) 2).1 : Int))
def headerV3 (s : St) : Int := (((numS ((numS ((numS ((numS (s) 2).2) 2).2) 2).2) 2).1 : Int))
def headerV4 (s : St) : Int := (((numS ((numS ((numS ((numS ((numS (s) 2).2) 2).2) 2).2) 2).2) 2).1 : Int))
def headerV5 (s : St) : Int := (fixS ((numS ((numS ((numS ((numS ((numS (s) 2).2) 2).2) 2).2) 2).2) 2).2)).1
def headerU (s : St) : Nat := (numS ((fixS ((numS ((numS ((numS ((numS ((numS (s) 2).2) 2).2) 2).2) 2).2) 2).2)).2) 8).1
def headerV7 (s : St) : Int := ((threeS ((numS ((fixS ((numS ((numS ((numS ((numS ((numS (s) 2).2) 2).2) 2).2) 2).2) 2).2)).2) 8).2)).1 0)
def headerV8 (s : St) : Int := ((threeS ((numS ((fixS ((numS ((numS ((numS ((numS ((numS (s) 2).2) 2).2) 2).2) 2).2) 2).2)).2) 8).2)).1 1)
def headerV9 (s : St) : Int := ((threeS ((numS ((fixS ((numS ((numS ((numS ((numS ((numS (s) 2).2) 2).2) 2).2) 2).2) 2).2)).2) 8).2)).1 2)

theorem jheaderR (g : Nat) {B : Nat} (s : St) (w : World) (hw : RP (.pointer (some ⟨g, 0, none⟩)) g B s w) (hg : g < w.heap.size) (hB : B ≤ w.heap.size) : Calls Tryz.prog 26 #[.agg #[.pointer (some ⟨g, 0, none⟩)]] w fun e' w' => e' = .returned (.agg #[.int .i64 (headerV0 s), .int .i64 (headerV1 s), .int .i64 (headerV2 s), .int .i64 (headerV3 s), .int .i64 (headerV4 s), .int .i64 (headerV5 s), .int .u64 (headerU s : Int), .int .i64 (headerV7 s), .int .i64 (headerV8 s), .int .i64 (headerV9 s)]) ∧ RP (.pointer (some ⟨g, 0, none⟩)) g B (headerE s) w' ∧ Aft g w.heap.size w w' := jheader g s w hw hg hB

/-- what is read of the lens, and the state behind it -/
def lensE (s : St) : St := (fixS ((numS ((numS (s) 2).2) 2).2)).2
def lensV0 (s : St) : Int := (((numS (s) 2).1 : Int))
def lensV1 (s : St) : Int := (((numS ((numS (s) 2).2) 2).1 : Int))
def lensV2 (s : St) : Int := (fixS ((numS ((numS (s) 2).2) 2).2)).1

theorem jlensR (g : Nat) {B : Nat} (s : St) (w : World) (hw : RP (.pointer (some ⟨g, 0, none⟩)) g B s w) (hg : g < w.heap.size) (hB : B ≤ w.heap.size) : Calls Tryz.prog 27 #[.agg #[.pointer (some ⟨g, 0, none⟩)]] w fun e' w' => e' = .returned (.agg #[.int .i64 (lensV0 s), .int .i64 (lensV1 s), .int .i64 (lensV2 s)]) ∧ RP (.pointer (some ⟨g, 0, none⟩)) g B (lensE s) w' ∧ Aft g w.heap.size w w' := jlens g s w hw hg hB

def s1 (s : St) : St := mgK s 4
def s2 (s : St) : St := headerE (s1 s)
def s3 (s : St) : St := lensE (s2 s)
def m1 (s : St) : Nat × St := manyS (s3 s) 32 22
def m2 (s : St) : Nat × St := manyS (m1 s).2 32 23
def m3 (s : St) : Nat × St := manyS (m2 s).2 32 24
def m4 (s : St) : Nat × St := manyS (m3 s).2 128 25
def s5 (s : St) : St := itS paintE (m4 s).2 (m1 s).1
def s6 (s : St) : St := itS trackE (s5 s) (m2 s).1
def s7 (s : St) : St := itS jointE (s6 s) (m3 s).1
/-- the state behind a scene -/
def sceneE (s : St) : St := itS shapeE (s7 s) (m4 s).1

/-- the scene that some bytes are -/
def parScn (s : St) : Scn where
  w := headerV0 (s1 s)
  h := headerV1 (s1 s)
  sm := headerV2 (s1 s)
  dp := headerV3 (s1 s)
  fr := headerV4 (s1 s)
  sh := headerV5 (s1 s)
  sd := headerU (s1 s)
  r := headerV7 (s1 s)
  g := headerV8 (s1 s)
  b := headerV9 (s1 s)
  ey := lensV0 (s2 s)
  lk := lensV1 (s2 s)
  wd := lensV2 (s2 s)
  np := (m1 s).1
  P := itV paintE paintV 5 (m4 s).2
  nt := (m2 s).1
  way i := trackW (itS trackE (s5 s) i)
  kn i := trackN (itS trackE (s5 s) i)
  K i := trackK (itS trackE (s5 s) i)
  nj := (m3 s).1
  J := itV jointE jointV 4 (s6 s)
  ns := (m4 s).1
  S := itV shapeE shapeV 13 (s7 s)

theorem Lie.low {c base base' : Nat} {e : TypeId} {a : Option Addr} {n : Nat} {L : Nat → Int} {w : World} (h : Lie c e base a n L w) (hb : base' ≤ base) : Lie c e base' a n L w := LP.low h hb

theorem LieT.low {base base' : Nat} {a : Option Addr} {n : Nat} {s : St} {w : World} (h : LieT base a n s w) (hb : base' ≤ base) : LieT base' a n s w := by
  rcases h with h | ⟨b, h0, h1, h2, h3⟩
  · exact .inl h
  · refine .inr ⟨b, h0, Nat.le_trans hb h1, h2, fun i hi => ?_⟩
    obtain ⟨ka, kc, q1, q2, q3⟩ := h3 i hi
    exact ⟨ka, kc, q1, q2, q3.low hb⟩

set_option maxHeartbeats 8000000 in
set_option maxRecDepth 100000 in
theorem jscene_at (g : Nat) {B : Nat} (t0 t1 t2 t3 t4 t5 t6 t7 t8 t9 ta0 tb0 st : St) (va0 va1 va2 va3 va4 va5 : Int) (va6 : Nat) (va7 va8 va9 va10 va11 va12 : Int) (n1 n2 n3 n4 : Nat) (Lp Lj Ls : Nat → Int) (C1 : ∀ W : World, RP (.pointer (some ⟨g, 0, none⟩)) g B t0 W → g < W.heap.size → B ≤ W.heap.size → Calls Tryz.prog 25 #[.agg #[.pointer (some ⟨g, 0, none⟩)]] W fun e' w' => e' = .returned (.tuple #[]) ∧ RP (.pointer (some ⟨g, 0, none⟩)) g B t1 w' ∧ Aft g W.heap.size W w') (C2 : ∀ W : World, RP (.pointer (some ⟨g, 0, none⟩)) g B t1 W → g < W.heap.size → B ≤ W.heap.size → Calls Tryz.prog 26 #[.agg #[.pointer (some ⟨g, 0, none⟩)]] W fun e' w' => e' = .returned (.agg #[.int .i64 va0, .int .i64 va1, .int .i64 va2, .int .i64 va3, .int .i64 va4, .int .i64 va5, .int .u64 (va6 : Int), .int .i64 va7, .int .i64 va8, .int .i64 va9]) ∧ RP (.pointer (some ⟨g, 0, none⟩)) g B t2 w' ∧ Aft g W.heap.size W w') (C3 : ∀ W : World, RP (.pointer (some ⟨g, 0, none⟩)) g B t2 W → g < W.heap.size → B ≤ W.heap.size → Calls Tryz.prog 27 #[.agg #[.pointer (some ⟨g, 0, none⟩)]] W fun e' w' => e' = .returned (.agg #[.int .i64 va10, .int .i64 va11, .int .i64 va12]) ∧ RP (.pointer (some ⟨g, 0, none⟩)) g B t3 w' ∧ Aft g W.heap.size W w') (C4 : ∀ W : World, RP (.pointer (some ⟨g, 0, none⟩)) g B t3 W → g < W.heap.size → B ≤ W.heap.size → Calls Tryz.prog 28 #[.agg #[.pointer (some ⟨g, 0, none⟩)], .int .i64 32, .int .i64 22] W fun e' w' => e' = .returned (.int .i64 (n1 : Int)) ∧ RP (.pointer (some ⟨g, 0, none⟩)) g B t4 w' ∧ Aft g W.heap.size W w') (C5 : ∀ W : World, RP (.pointer (some ⟨g, 0, none⟩)) g B t4 W → g < W.heap.size → B ≤ W.heap.size → Calls Tryz.prog 28 #[.agg #[.pointer (some ⟨g, 0, none⟩)], .int .i64 32, .int .i64 23] W fun e' w' => e' = .returned (.int .i64 (n2 : Int)) ∧ RP (.pointer (some ⟨g, 0, none⟩)) g B t5 w' ∧ Aft g W.heap.size W w') (C6 : ∀ W : World, RP (.pointer (some ⟨g, 0, none⟩)) g B t5 W → g < W.heap.size → B ≤ W.heap.size → Calls Tryz.prog 28 #[.agg #[.pointer (some ⟨g, 0, none⟩)], .int .i64 32, .int .i64 24] W fun e' w' => e' = .returned (.int .i64 (n3 : Int)) ∧ RP (.pointer (some ⟨g, 0, none⟩)) g B t6 w' ∧ Aft g W.heap.size W w') (C7 : ∀ W : World, RP (.pointer (some ⟨g, 0, none⟩)) g B t6 W → g < W.heap.size → B ≤ W.heap.size → Calls Tryz.prog 28 #[.agg #[.pointer (some ⟨g, 0, none⟩)], .int .i64 128, .int .i64 25] W fun e' w' => e' = .returned (.int .i64 (n4 : Int)) ∧ RP (.pointer (some ⟨g, 0, none⟩)) g B t7 w' ∧ Aft g W.heap.size W w') (C8 : ∀ W : World, RP (.pointer (some ⟨g, 0, none⟩)) g B t7 W → g < W.heap.size → B ≤ W.heap.size → Calls Tryz.prog 29 #[.int .i64 (n1 : Int), .func (.func 30) #[.agg #[.pointer (some ⟨g, 0, none⟩)]] #[]] W fun e' w' => (∃ pa pc, e' = .returned (.slice pa n1 pc) ∧ Lie 5 91 W.heap.size pa n1 Lp w') ∧ RP (.pointer (some ⟨g, 0, none⟩)) g B t8 w' ∧ Aft g W.heap.size W w') (C9 : ∀ W : World, RP (.pointer (some ⟨g, 0, none⟩)) g B t8 W → g < W.heap.size → B ≤ W.heap.size → Calls Tryz.prog 31 #[.int .i64 (n2 : Int), .func (.func 32) #[.agg #[.pointer (some ⟨g, 0, none⟩)]] #[]] W fun e' w' => (∃ ta tc, e' = .returned (.slice ta n2 tc) ∧ LieT W.heap.size ta n2 st w') ∧ RP (.pointer (some ⟨g, 0, none⟩)) g B t9 w' ∧ Aft g W.heap.size W w') (C10 : ∀ W : World, RP (.pointer (some ⟨g, 0, none⟩)) g B t9 W → g < W.heap.size → B ≤ W.heap.size → Calls Tryz.prog 33 #[.int .i64 (n3 : Int), .func (.func 34) #[.agg #[.pointer (some ⟨g, 0, none⟩)]] #[]] W fun e' w' => (∃ ja jc, e' = .returned (.slice ja n3 jc) ∧ Lie 4 97 W.heap.size ja n3 Lj w') ∧ RP (.pointer (some ⟨g, 0, none⟩)) g B ta0 w' ∧ Aft g W.heap.size W w') (C11 : ∀ W : World, RP (.pointer (some ⟨g, 0, none⟩)) g B ta0 W → g < W.heap.size → B ≤ W.heap.size → Calls Tryz.prog 35 #[.int .i64 (n4 : Int), .func (.func 36) #[.agg #[.pointer (some ⟨g, 0, none⟩)]] #[]] W fun e' w' => (∃ sa sc, e' = .returned (.slice sa n4 sc) ∧ Lie 13 103 W.heap.size sa n4 Ls w') ∧ RP (.pointer (some ⟨g, 0, none⟩)) g B tb0 w' ∧ Aft g W.heap.size W w') (w : World) (hw : RP (.pointer (some ⟨g, 0, none⟩)) g B t0 w) (hg : g < w.heap.size) (hB : B ≤ w.heap.size) : Calls Tryz.prog 10 #[.agg #[.pointer (some ⟨g, 0, none⟩)]] w fun e' w' => (∃ pa pc ta tc ja jc sa sc, e' = .returned (.agg #[.int .i64 va0, .int .i64 va1, .int .i64 va2, .int .i64 va3, .int .i64 va4, .int .i64 va5, .int .u64 (va6 : Int), .int .i64 va7, .int .i64 va8, .int .i64 va9, .int .i64 va10, .int .i64 va11, .int .i64 va12, .slice pa n1 pc, .slice ta n2 tc, .slice ja n3 jc, .slice sa n4 sc]) ∧ Lie 5 91 w.heap.size pa n1 Lp w' ∧ LieT w.heap.size ta n2 st w' ∧ Lie 4 97 w.heap.size ja n3 Lj w' ∧ Lie 13 103 w.heap.size sa n4 Ls w') ∧ RP (.pointer (some ⟨g, 0, none⟩)) g B tb0 w' ∧ Aft g w.heap.size w w' := by
  have HPw := Lib.hid hw
  clear hw
  have HC1 := Lib.hid C1
  clear C1
  have HC2 := Lib.hid C2
  clear C2
  have HC3 := Lib.hid C3
  clear C3
  have HC4 := Lib.hid C4
  clear C4
  have HC5 := Lib.hid C5
  clear C5
  have HC6 := Lib.hid C6
  clear C6
  have HC7 := Lib.hid C7
  clear C7
  have HC8 := Lib.hid C8
  clear C8
  have HC9 := Lib.hid C9
  clear C9
  have HC10 := Lib.hid C10
  clear C10
  have HC11 := Lib.hid C11
  clear C11
  go_enter Tryz.func10, Tryz.ntmps10
  go_upto_region 1 with fail
  have hR := Au.rows2 w (.cells #[.pointer (some ⟨g, 0, none⟩)] 59) (.cells #[.int .i64 0, .int .i64 0, .int .i64 0, .int .i64 0, .int .i64 0, .int .i64 0, .int .u64 0, .int .i64 0, .int .i64 0, .int .i64 0, .int .i64 0, .int .i64 0, .int .i64 0, .slice none 0 0, .slice none 0 0, .slice none 0 0, .slice none 0 0] 36)
  have HUx := Ve.below_n2 w (.cells #[.pointer (some ⟨g, 0, none⟩)] 59) (.cells #[.int .i64 0, .int .i64 0, .int .i64 0, .int .i64 0, .int .i64 0, .int .i64 0, .int .u64 0, .int .i64 0, .int .i64 0, .int .i64 0, .int .i64 0, .int .i64 0, .int .i64 0, .slice none 0 0, .slice none 0 0, .slice none 0 0, .slice none 0 0] 36)
  obtain ⟨y0, hy0⟩ : ∃ y0, (w.alloc (.cells #[.pointer (some ⟨g, 0, none⟩)] 59)).alloc (.cells #[.int .i64 0, .int .i64 0, .int .i64 0, .int .i64 0, .int .i64 0, .int .i64 0, .int .u64 0, .int .i64 0, .int .i64 0, .int .i64 0, .int .i64 0, .int .i64 0, .int .i64 0, .slice none 0 0, .slice none 0 0, .slice none 0 0, .slice none 0 0] 36) = y0 := ⟨_, rfl⟩
  rw [hy0] at hR HUx ⊢
  clear hy0
  have HP0 := Lib.hid (HPw.out.new HUx)
  have hz0 := HUx.size
  have HU0 := Lib.hid (Aft.of (g := g) (base := w.heap.size) HUx)
  clear HUx
  obtain ⟨hr0_0, hr0_1⟩ := hR
  have HWL0 := Lib.hid hr0_0
  have HWZ0 := Lib.hid (show (Tryz.prog.info? 59).map (·.size) = some (#[.pointer (some ⟨g, 0, none⟩)] : Array Value).size by kernel_rfl)
  go_wp2_with (first | (with_reducible refine wpList_load_row rfl 59 (.tmp 1) rfl (w.heap.size) rfl 59 #[.pointer (some ⟨g, 0, none⟩)] (0, 0) _ HWL0.out Tryz.underlying59 rfl HWZ0.out ?_))
  clear HWL0 HWZ0
  refine (HC1.out _ HP0.out (by omega) (by omega)).mono ?_
  rintro e y1 ⟨rfl, hp1, hb1⟩
  have HP1 := Lib.hid hp1
  have hz1 := hb1.size
  have hr1_0 := (hb1.block _ (lt_heap hr0_0) (lt_heap hr0_0) (by omega)).trans hr0_0
  have hr1_1 := (hb1.block _ (lt_heap hr0_1) (lt_heap hr0_1) (by omega)).trans hr0_1
  have HU1 := Lib.hid (HU0.out.trans (hb1.mono HU0.out.size))
  clear hr0_0 hr0_1 HU0
  have hl1_1 := lt_heap hr1_1
  go_upto_region 2 with fail
  go_cut [3] (fun s3' wx => ∃ gs : Nat, s3' = .pointer (some ⟨gs, 0, none⟩) ∧ w.heap.size + 1 < gs ∧ wx.heap[gs]? = some (.cells #[.int .i64 va0, .int .i64 va1, .int .i64 va2, .int .i64 va3, .int .i64 va4, .int .i64 va5, .int .u64 (va6 : Int), .int .i64 va7, .int .i64 va8, .int .i64 va9, .int .i64 va10, .int .i64 va11, .int .i64 va12, .slice none 0 0, .slice none 0 0, .slice none 0 0, .slice none 0 0] 36 (0, 0)) ∧ wx.heap[w.heap.size]? = some (.cells #[.pointer (some ⟨g, 0, none⟩)] 59 (0, 0)) ∧ wx.heap[w.heap.size + 1]? = some (.cells #[.int .i64 0, .int .i64 0, .int .i64 0, .int .i64 0, .int .i64 0, .int .i64 0, .int .u64 0, .int .i64 0, .int .i64 0, .int .i64 0, .int .i64 0, .int .i64 0, .int .i64 0, .slice none 0 0, .slice none 0 0, .slice none 0 0, .slice none 0 0] 36 (0, 0)) ∧ Hid (RP (.pointer (some ⟨g, 0, none⟩)) g B t3 wx) ∧ Hid (Aft g w.heap.size w wx))
  case first =>
    refine wp_region_held_drew (S := fun y => y.heap[w.heap.size]? = some (.cells #[.pointer (some ⟨g, 0, none⟩)] 59 (0, 0))) (by kernel_rfl) (hr1_0) (fun hS0 => ?_)
    obtain ⟨y2, hy2⟩ : ∃ y, y1.drew = y := ⟨_, rfl⟩
    have HU2 := Lib.hid (show Aft g w.heap.size w y2 by rw [← hy2]; exact HU1.out.drew)
    have HP2 := Lib.hid (show RP (.pointer (some ⟨g, 0, none⟩)) g B _ y2 by rw [← hy2]; exact rp_drew HP1.out)
    have hz2 := HU2.out.size
    have hr2_0 : y2.heap[w.heap.size]? = some (.cells #[.pointer (some ⟨g, 0, none⟩)] 59 (0, 0)) := by rw [← hy2]; exact hr1_0
    have hr2_1 : y2.heap[w.heap.size + 1]? = some (.cells #[.int .i64 0, .int .i64 0, .int .i64 0, .int .i64 0, .int .i64 0, .int .i64 0, .int .u64 0, .int .i64 0, .int .i64 0, .int .i64 0, .int .i64 0, .int .i64 0, .int .i64 0, .slice none 0 0, .slice none 0 0, .slice none 0 0, .slice none 0 0] 36 (0, 0)) := by rw [← hy2]; exact hr1_1
    have hl2_0 := lt_heap hr2_0
    have hl2_1 := lt_heap hr2_1
    rw [hy2] at hS0 ⊢
    clear hy2
    refine wpAnyH_take (i := 0) (v := .agg #[.pointer (some ⟨g, 0, none⟩)]) rfl (by kernel_rfl) (by kernel_rfl) (by kernel_rfl) (fun _ _ _ h => h) (Lr.yieldsIf_load_row (by kernel_rfl) 59 (.tmp 1) rfl (w.heap.size) rfl 59 #[.pointer (some ⟨g, 0, none⟩)] _ (fun yy hh => hh) Tryz.underlying59 rfl (by kernel_rfl)) hS0 ?_
    go_simp
    refine wpAnyH_take (i := 2) (v := .agg #[.pointer (some ⟨g, 0, none⟩)]) rfl (by kernel_rfl) (by kernel_rfl) (by kernel_rfl) (fun _ _ _ h => h) (Lr.yieldsIf_load_row (by kernel_rfl) 59 (.tmp 1) rfl (w.heap.size) rfl 59 #[.pointer (some ⟨g, 0, none⟩)] _ (fun yy hh => hh) Tryz.underlying59 rfl (by kernel_rfl)) hS0 ?_
    go_simp
    refine wpAnyH_ready (rs := [1, 5]) (by kernel_rfl) (by simp) ?_
    refine AllReadyH.cons rfl (fun K hK => ?_) (AllReadyH.cons rfl (fun K hK => ?_) AllReadyH.nil)
    · skip
      go_simp
      go_wp2_with (go_at_call 26; refine (HC2.out _ HP2.out (by omega) (by omega)).mono ?_; rintro e y3 ⟨rfl, hp3, hb3⟩)
      have HP3 := Lib.hid hp3
      have hz3 := hb3.size
      have hr3_0 := (hb3.block _ (lt_heap hr2_0) (lt_heap hr2_0) (by omega)).trans hr2_0
      have hr3_1 := (hb3.block _ (lt_heap hr2_1) (lt_heap hr2_1) (by omega)).trans hr2_1
      have HU3 := Lib.hid (HU2.out.trans (hb3.mono HU2.out.size))
      refine hK.out _ _ ((hb3.block _ (lt_heap hS0) (lt_heap hS0) (by omega)).trans hS0) (fun hS3c => ?_)
      clear hK K
      refine wpAnyH_ready (rs := [3, 5]) (by kernel_rfl) (by simp) ?_
      refine AllReadyH.cons rfl (fun K hK => ?_) (AllReadyH.cons rfl (fun K hK => ?_) AllReadyH.nil)
      · skip
        go_simp
        go_wp2_with (go_at_call 27; refine (HC3.out _ HP3.out (by omega) (by omega)).mono ?_; rintro e y4 ⟨rfl, hp4, hb4⟩)
        have HP4 := Lib.hid hp4
        have hz4 := hb4.size
        have hr4_0 := (hb4.block _ (lt_heap hr3_0) (lt_heap hr3_0) (by omega)).trans hr3_0
        have hr4_1 := (hb4.block _ (lt_heap hr3_1) (lt_heap hr3_1) (by omega)).trans hr3_1
        have HU4 := Lib.hid (HU3.out.trans (hb4.mono HU3.out.size))
        refine hK.out _ _ ((hb4.block _ (lt_heap hS3c) (lt_heap hS3c) (by omega)).trans hS3c) (fun hS4c => ?_)
        clear hK K
        refine wpAnyH_take (i := 4) (v := ?_) rfl (by kernel_rfl) (by kernel_rfl) (by kernel_rfl) (fun _ _ _ h => h) (Or.inl ⟨by kernel_rfl, by (intro wz hSz; go_simp; try with_reducible rfl)⟩) hS4c ?_
        go_simp
        refine wpAnyH_ready (rs := [5]) (by kernel_rfl) (by simp) ?_
        refine AllReadyH.cons rfl (fun K hK => ?_) AllReadyH.nil
        go_simp
        have hb5 := Ve.below_n1 y4 (.cells #[.int .i64 0, .int .i64 0, .int .i64 0, .int .i64 0, .int .i64 0, .int .i64 0, .int .u64 0, .int .i64 0, .int .i64 0, .int .i64 0, .int .i64 0, .int .i64 0, .int .i64 0, .slice none 0 0, .slice none 0 0, .slice none 0 0, .slice none 0 0] 36)
        have hp5 := HP4.out.new hb5
        have hb5 := Aft.of (g := g) (base := y4.heap.size) hb5
        have hN := heap_alloc_last y4 (.cells #[.int .i64 0, .int .i64 0, .int .i64 0, .int .i64 0, .int .i64 0, .int .i64 0, .int .u64 0, .int .i64 0, .int .i64 0, .int .i64 0, .int .i64 0, .int .i64 0, .int .i64 0, .slice none 0 0, .slice none 0 0, .slice none 0 0, .slice none 0 0] 36)
        obtain ⟨y5, hy5⟩ : ∃ y, y4.alloc (.cells #[.int .i64 0, .int .i64 0, .int .i64 0, .int .i64 0, .int .i64 0, .int .i64 0, .int .u64 0, .int .i64 0, .int .i64 0, .int .i64 0, .int .i64 0, .int .i64 0, .int .i64 0, .slice none 0 0, .slice none 0 0, .slice none 0 0, .slice none 0 0] 36) = y := ⟨_, rfl⟩
        rw [hy5] at hb5 hN hp5 ⊢
        clear hy5
        have HP5 := Lib.hid hp5
        have hz5 := hb5.size
        have hl5_0 := lt_heap hr4_0
        have hr5_0 := (hb5.block _ (lt_heap hr4_0) (lt_heap hr4_0) (by omega)).trans hr4_0
        have hl5_1 := lt_heap hr4_1
        have hr5_1 := (hb5.block _ (lt_heap hr4_1) (lt_heap hr4_1) (by omega)).trans hr4_1
        have hr5_2 := hN
        clear hN
        have HU5 := Lib.hid (HU4.out.trans (hb5.mono HU4.out.size))
        refine hK.out _ _ ((hb5.block _ (lt_heap hS4c) (lt_heap hS4c) (by omega)).trans hS4c) (fun hS5a => ?_)
        clear hK K
        refine wpAnyH_ready (rs := [6]) (by kernel_rfl) (by simp) ?_
        refine AllReadyH.cons rfl (fun K hK => ?_) AllReadyH.nil
        refine step_store_row rfl 36 (.tmp 3) (.tmp 14) rfl #[.int .i64 0, .int .i64 0, .int .i64 0, .int .i64 0, .int .i64 0, .int .i64 0, .int .u64 0, .int .i64 0, .int .i64 0, .int .i64 0, .int .i64 0, .int .i64 0, .int .i64 0, .slice none 0 0, .slice none 0 0, .slice none 0 0, .slice none 0 0] #[.int .i64 va0, .int .i64 va1, .int .i64 va2, .int .i64 va3, .int .i64 va4, .int .i64 va5, .int .u64 (va6 : Int), .int .i64 va7, .int .i64 va8, .int .i64 va9, .int .i64 va10, .int .i64 va11, .int .i64 va12, .slice none 0 0, .slice none 0 0, .slice none 0 0, .slice none 0 0] _ 36 hr5_2 rfl (by first | rfl | (go_simp; done) | (go_simp; rfl)) (by kernel_rfl) rfl (by simp [Value.oneCell']) ?_
        have hN := setRow_heap _ (y4.heap.size) _ #[.int .i64 va0, .int .i64 va1, .int .i64 va2, .int .i64 va3, .int .i64 va4, .int .i64 va5, .int .u64 (va6 : Int), .int .i64 va7, .int .i64 va8, .int .i64 va9, .int .i64 va10, .int .i64 va11, .int .i64 va12, .slice none 0 0, .slice none 0 0, .slice none 0 0, .slice none 0 0] _ _ hr5_2
        have hsz := HU5.out.size
        have HUx := aft_setRow (k := y4.heap.size) HU5.out (by omega) (by omega) #[.int .i64 va0, .int .i64 va1, .int .i64 va2, .int .i64 va3, .int .i64 va4, .int .i64 va5, .int .u64 (va6 : Int), .int .i64 va7, .int .i64 va8, .int .i64 va9, .int .i64 va10, .int .i64 va11, .int .i64 va12, .slice none 0 0, .slice none 0 0, .slice none 0 0, .slice none 0 0]
        have hPx := rp_setRow (k := y4.heap.size) HP5.out (by omega) #[.int .i64 va0, .int .i64 va1, .int .i64 va2, .int .i64 va3, .int .i64 va4, .int .i64 va5, .int .u64 (va6 : Int), .int .i64 va7, .int .i64 va8, .int .i64 va9, .int .i64 va10, .int .i64 va11, .int .i64 va12, .slice none 0 0, .slice none 0 0, .slice none 0 0, .slice none 0 0]
        obtain ⟨y6, hy6⟩ : ∃ y, y5.setRow (y4.heap.size) #[.int .i64 va0, .int .i64 va1, .int .i64 va2, .int .i64 va3, .int .i64 va4, .int .i64 va5, .int .u64 (va6 : Int), .int .i64 va7, .int .i64 va8, .int .i64 va9, .int .i64 va10, .int .i64 va11, .int .i64 va12, .slice none 0 0, .slice none 0 0, .slice none 0 0, .slice none 0 0] = y := ⟨_, rfl⟩
        have hO : ∀ k, k ≠ y4.heap.size → y6.heap[k]? = y5.heap[k]? := fun k hk => by rw [← hy6]; exact setRow_other _ _ _ _ hk
        rw [hy6] at hN HUx hPx ⊢
        clear hy6
        have HU6 := Lib.hid HUx
        clear HUx
        have HP6 := Lib.hid hPx
        have hz6 := HU6.out.size
        have hr6_0 := (hO _ (by omega)).trans hr5_0
        have hr6_1 := (hO _ (by omega)).trans hr5_1
        have hr6_2 := hN
        clear hN
        refine hK.out _ _ ((hO _ (by omega)).trans hS5a) (fun hS6s => ?_)
        clear hK K
        refine wpAnyH_done (by kernel_rfl) ?_ _
        go_wp2_with fail
        go_meet
        exact ⟨_, rfl, by omega, hr6_2, hr6_0, hr6_1, HP6, HU6⟩
      · skip
        go_simp
        have hb4 := Ve.below_n1 y3 (.cells #[.int .i64 0, .int .i64 0, .int .i64 0, .int .i64 0, .int .i64 0, .int .i64 0, .int .u64 0, .int .i64 0, .int .i64 0, .int .i64 0, .int .i64 0, .int .i64 0, .int .i64 0, .slice none 0 0, .slice none 0 0, .slice none 0 0, .slice none 0 0] 36)
        have hp4 := HP3.out.new hb4
        have hb4 := Aft.of (g := g) (base := y3.heap.size) hb4
        have hN := heap_alloc_last y3 (.cells #[.int .i64 0, .int .i64 0, .int .i64 0, .int .i64 0, .int .i64 0, .int .i64 0, .int .u64 0, .int .i64 0, .int .i64 0, .int .i64 0, .int .i64 0, .int .i64 0, .int .i64 0, .slice none 0 0, .slice none 0 0, .slice none 0 0, .slice none 0 0] 36)
        obtain ⟨y4, hy4⟩ : ∃ y, y3.alloc (.cells #[.int .i64 0, .int .i64 0, .int .i64 0, .int .i64 0, .int .i64 0, .int .i64 0, .int .u64 0, .int .i64 0, .int .i64 0, .int .i64 0, .int .i64 0, .int .i64 0, .int .i64 0, .slice none 0 0, .slice none 0 0, .slice none 0 0, .slice none 0 0] 36) = y := ⟨_, rfl⟩
        rw [hy4] at hb4 hN hp4 ⊢
        clear hy4
        have HP4 := Lib.hid hp4
        have hz4 := hb4.size
        have hl4_0 := lt_heap hr3_0
        have hr4_0 := (hb4.block _ (lt_heap hr3_0) (lt_heap hr3_0) (by omega)).trans hr3_0
        have hl4_1 := lt_heap hr3_1
        have hr4_1 := (hb4.block _ (lt_heap hr3_1) (lt_heap hr3_1) (by omega)).trans hr3_1
        have hr4_2 := hN
        clear hN
        have HU4 := Lib.hid (HU3.out.trans (hb4.mono HU3.out.size))
        refine hK.out _ _ ((hb4.block _ (lt_heap hS3c) (lt_heap hS3c) (by omega)).trans hS3c) (fun hS4a => ?_)
        clear hK K
        refine wpAnyH_ready (rs := [3]) (by kernel_rfl) (by simp) ?_
        refine AllReadyH.cons rfl (fun K hK => ?_) AllReadyH.nil
        go_simp
        go_wp2_with (go_at_call 27; refine (HC3.out _ HP4.out (by omega) (by omega)).mono ?_; rintro e y5 ⟨rfl, hp5, hb5⟩)
        have HP5 := Lib.hid hp5
        have hz5 := hb5.size
        have hr5_0 := (hb5.block _ (lt_heap hr4_0) (lt_heap hr4_0) (by omega)).trans hr4_0
        have hr5_1 := (hb5.block _ (lt_heap hr4_1) (lt_heap hr4_1) (by omega)).trans hr4_1
        have hr5_2 := (hb5.block _ (lt_heap hr4_2) (lt_heap hr4_2) (by omega)).trans hr4_2
        have HU5 := Lib.hid (HU4.out.trans (hb5.mono HU4.out.size))
        refine hK.out _ _ ((hb5.block _ (lt_heap hS4a) (lt_heap hS4a) (by omega)).trans hS4a) (fun hS5c => ?_)
        clear hK K
        refine wpAnyH_take (i := 4) (v := ?_) rfl (by kernel_rfl) (by kernel_rfl) (by kernel_rfl) (fun _ _ _ h => h) (Or.inl ⟨by kernel_rfl, by (intro wz hSz; go_simp; try with_reducible rfl)⟩) hS5c ?_
        go_simp
        refine wpAnyH_ready (rs := [6]) (by kernel_rfl) (by simp) ?_
        refine AllReadyH.cons rfl (fun K hK => ?_) AllReadyH.nil
        refine step_store_row rfl 36 (.tmp 3) (.tmp 14) rfl #[.int .i64 0, .int .i64 0, .int .i64 0, .int .i64 0, .int .i64 0, .int .i64 0, .int .u64 0, .int .i64 0, .int .i64 0, .int .i64 0, .int .i64 0, .int .i64 0, .int .i64 0, .slice none 0 0, .slice none 0 0, .slice none 0 0, .slice none 0 0] #[.int .i64 va0, .int .i64 va1, .int .i64 va2, .int .i64 va3, .int .i64 va4, .int .i64 va5, .int .u64 (va6 : Int), .int .i64 va7, .int .i64 va8, .int .i64 va9, .int .i64 va10, .int .i64 va11, .int .i64 va12, .slice none 0 0, .slice none 0 0, .slice none 0 0, .slice none 0 0] _ 36 hr5_2 rfl (by first | rfl | (go_simp; done) | (go_simp; rfl)) (by kernel_rfl) rfl (by simp [Value.oneCell']) ?_
        have hN := setRow_heap _ (y3.heap.size) _ #[.int .i64 va0, .int .i64 va1, .int .i64 va2, .int .i64 va3, .int .i64 va4, .int .i64 va5, .int .u64 (va6 : Int), .int .i64 va7, .int .i64 va8, .int .i64 va9, .int .i64 va10, .int .i64 va11, .int .i64 va12, .slice none 0 0, .slice none 0 0, .slice none 0 0, .slice none 0 0] _ _ hr5_2
        have hsz := HU5.out.size
        have HUx := aft_setRow (k := y3.heap.size) HU5.out (by omega) (by omega) #[.int .i64 va0, .int .i64 va1, .int .i64 va2, .int .i64 va3, .int .i64 va4, .int .i64 va5, .int .u64 (va6 : Int), .int .i64 va7, .int .i64 va8, .int .i64 va9, .int .i64 va10, .int .i64 va11, .int .i64 va12, .slice none 0 0, .slice none 0 0, .slice none 0 0, .slice none 0 0]
        have hPx := rp_setRow (k := y3.heap.size) HP5.out (by omega) #[.int .i64 va0, .int .i64 va1, .int .i64 va2, .int .i64 va3, .int .i64 va4, .int .i64 va5, .int .u64 (va6 : Int), .int .i64 va7, .int .i64 va8, .int .i64 va9, .int .i64 va10, .int .i64 va11, .int .i64 va12, .slice none 0 0, .slice none 0 0, .slice none 0 0, .slice none 0 0]
        obtain ⟨y6, hy6⟩ : ∃ y, y5.setRow (y3.heap.size) #[.int .i64 va0, .int .i64 va1, .int .i64 va2, .int .i64 va3, .int .i64 va4, .int .i64 va5, .int .u64 (va6 : Int), .int .i64 va7, .int .i64 va8, .int .i64 va9, .int .i64 va10, .int .i64 va11, .int .i64 va12, .slice none 0 0, .slice none 0 0, .slice none 0 0, .slice none 0 0] = y := ⟨_, rfl⟩
        have hO : ∀ k, k ≠ y3.heap.size → y6.heap[k]? = y5.heap[k]? := fun k hk => by rw [← hy6]; exact setRow_other _ _ _ _ hk
        rw [hy6] at hN HUx hPx ⊢
        clear hy6
        have HU6 := Lib.hid HUx
        clear HUx
        have HP6 := Lib.hid hPx
        have hz6 := HU6.out.size
        have hr6_0 := (hO _ (by omega)).trans hr5_0
        have hr6_1 := (hO _ (by omega)).trans hr5_1
        have hr6_2 := hN
        clear hN
        refine hK.out _ _ ((hO _ (by omega)).trans hS5c) (fun hS6s => ?_)
        clear hK K
        refine wpAnyH_done (by kernel_rfl) ?_ _
        go_wp2_with fail
        go_meet
        exact ⟨_, rfl, by omega, hr6_2, hr6_0, hr6_1, HP6, HU6⟩
    · skip
      go_simp
      have hb3 := Ve.below_n1 y2 (.cells #[.int .i64 0, .int .i64 0, .int .i64 0, .int .i64 0, .int .i64 0, .int .i64 0, .int .u64 0, .int .i64 0, .int .i64 0, .int .i64 0, .int .i64 0, .int .i64 0, .int .i64 0, .slice none 0 0, .slice none 0 0, .slice none 0 0, .slice none 0 0] 36)
      have hp3 := HP2.out.new hb3
      have hb3 := Aft.of (g := g) (base := y2.heap.size) hb3
      have hN := heap_alloc_last y2 (.cells #[.int .i64 0, .int .i64 0, .int .i64 0, .int .i64 0, .int .i64 0, .int .i64 0, .int .u64 0, .int .i64 0, .int .i64 0, .int .i64 0, .int .i64 0, .int .i64 0, .int .i64 0, .slice none 0 0, .slice none 0 0, .slice none 0 0, .slice none 0 0] 36)
      obtain ⟨y3, hy3⟩ : ∃ y, y2.alloc (.cells #[.int .i64 0, .int .i64 0, .int .i64 0, .int .i64 0, .int .i64 0, .int .i64 0, .int .u64 0, .int .i64 0, .int .i64 0, .int .i64 0, .int .i64 0, .int .i64 0, .int .i64 0, .slice none 0 0, .slice none 0 0, .slice none 0 0, .slice none 0 0] 36) = y := ⟨_, rfl⟩
      rw [hy3] at hb3 hN hp3 ⊢
      clear hy3
      have HP3 := Lib.hid hp3
      have hz3 := hb3.size
      have hl3_0 := lt_heap hr2_0
      have hr3_0 := (hb3.block _ (lt_heap hr2_0) (lt_heap hr2_0) (by omega)).trans hr2_0
      have hl3_1 := lt_heap hr2_1
      have hr3_1 := (hb3.block _ (lt_heap hr2_1) (lt_heap hr2_1) (by omega)).trans hr2_1
      have hr3_2 := hN
      clear hN
      have HU3 := Lib.hid (HU2.out.trans (hb3.mono HU2.out.size))
      refine hK.out _ _ ((hb3.block _ (lt_heap hS0) (lt_heap hS0) (by omega)).trans hS0) (fun hS3a => ?_)
      clear hK K
      refine wpAnyH_ready (rs := [1]) (by kernel_rfl) (by simp) ?_
      refine AllReadyH.cons rfl (fun K hK => ?_) AllReadyH.nil
      go_simp
      go_wp2_with (go_at_call 26; refine (HC2.out _ HP3.out (by omega) (by omega)).mono ?_; rintro e y4 ⟨rfl, hp4, hb4⟩)
      have HP4 := Lib.hid hp4
      have hz4 := hb4.size
      have hr4_0 := (hb4.block _ (lt_heap hr3_0) (lt_heap hr3_0) (by omega)).trans hr3_0
      have hr4_1 := (hb4.block _ (lt_heap hr3_1) (lt_heap hr3_1) (by omega)).trans hr3_1
      have hr4_2 := (hb4.block _ (lt_heap hr3_2) (lt_heap hr3_2) (by omega)).trans hr3_2
      have HU4 := Lib.hid (HU3.out.trans (hb4.mono HU3.out.size))
      refine hK.out _ _ ((hb4.block _ (lt_heap hS3a) (lt_heap hS3a) (by omega)).trans hS3a) (fun hS4c => ?_)
      clear hK K
      refine wpAnyH_ready (rs := [3]) (by kernel_rfl) (by simp) ?_
      refine AllReadyH.cons rfl (fun K hK => ?_) AllReadyH.nil
      go_simp
      go_wp2_with (go_at_call 27; refine (HC3.out _ HP4.out (by omega) (by omega)).mono ?_; rintro e y5 ⟨rfl, hp5, hb5⟩)
      have HP5 := Lib.hid hp5
      have hz5 := hb5.size
      have hr5_0 := (hb5.block _ (lt_heap hr4_0) (lt_heap hr4_0) (by omega)).trans hr4_0
      have hr5_1 := (hb5.block _ (lt_heap hr4_1) (lt_heap hr4_1) (by omega)).trans hr4_1
      have hr5_2 := (hb5.block _ (lt_heap hr4_2) (lt_heap hr4_2) (by omega)).trans hr4_2
      have HU5 := Lib.hid (HU4.out.trans (hb5.mono HU4.out.size))
      refine hK.out _ _ ((hb5.block _ (lt_heap hS4c) (lt_heap hS4c) (by omega)).trans hS4c) (fun hS5c => ?_)
      clear hK K
      refine wpAnyH_take (i := 4) (v := ?_) rfl (by kernel_rfl) (by kernel_rfl) (by kernel_rfl) (fun _ _ _ h => h) (Or.inl ⟨by kernel_rfl, by (intro wz hSz; go_simp; try with_reducible rfl)⟩) hS5c ?_
      go_simp
      refine wpAnyH_ready (rs := [6]) (by kernel_rfl) (by simp) ?_
      refine AllReadyH.cons rfl (fun K hK => ?_) AllReadyH.nil
      refine step_store_row rfl 36 (.tmp 3) (.tmp 14) rfl #[.int .i64 0, .int .i64 0, .int .i64 0, .int .i64 0, .int .i64 0, .int .i64 0, .int .u64 0, .int .i64 0, .int .i64 0, .int .i64 0, .int .i64 0, .int .i64 0, .int .i64 0, .slice none 0 0, .slice none 0 0, .slice none 0 0, .slice none 0 0] #[.int .i64 va0, .int .i64 va1, .int .i64 va2, .int .i64 va3, .int .i64 va4, .int .i64 va5, .int .u64 (va6 : Int), .int .i64 va7, .int .i64 va8, .int .i64 va9, .int .i64 va10, .int .i64 va11, .int .i64 va12, .slice none 0 0, .slice none 0 0, .slice none 0 0, .slice none 0 0] _ 36 hr5_2 rfl (by first | rfl | (go_simp; done) | (go_simp; rfl)) (by kernel_rfl) rfl (by simp [Value.oneCell']) ?_
      have hN := setRow_heap _ (y2.heap.size) _ #[.int .i64 va0, .int .i64 va1, .int .i64 va2, .int .i64 va3, .int .i64 va4, .int .i64 va5, .int .u64 (va6 : Int), .int .i64 va7, .int .i64 va8, .int .i64 va9, .int .i64 va10, .int .i64 va11, .int .i64 va12, .slice none 0 0, .slice none 0 0, .slice none 0 0, .slice none 0 0] _ _ hr5_2
      have hsz := HU5.out.size
      have HUx := aft_setRow (k := y2.heap.size) HU5.out (by omega) (by omega) #[.int .i64 va0, .int .i64 va1, .int .i64 va2, .int .i64 va3, .int .i64 va4, .int .i64 va5, .int .u64 (va6 : Int), .int .i64 va7, .int .i64 va8, .int .i64 va9, .int .i64 va10, .int .i64 va11, .int .i64 va12, .slice none 0 0, .slice none 0 0, .slice none 0 0, .slice none 0 0]
      have hPx := rp_setRow (k := y2.heap.size) HP5.out (by omega) #[.int .i64 va0, .int .i64 va1, .int .i64 va2, .int .i64 va3, .int .i64 va4, .int .i64 va5, .int .u64 (va6 : Int), .int .i64 va7, .int .i64 va8, .int .i64 va9, .int .i64 va10, .int .i64 va11, .int .i64 va12, .slice none 0 0, .slice none 0 0, .slice none 0 0, .slice none 0 0]
      obtain ⟨y6, hy6⟩ : ∃ y, y5.setRow (y2.heap.size) #[.int .i64 va0, .int .i64 va1, .int .i64 va2, .int .i64 va3, .int .i64 va4, .int .i64 va5, .int .u64 (va6 : Int), .int .i64 va7, .int .i64 va8, .int .i64 va9, .int .i64 va10, .int .i64 va11, .int .i64 va12, .slice none 0 0, .slice none 0 0, .slice none 0 0, .slice none 0 0] = y := ⟨_, rfl⟩
      have hO : ∀ k, k ≠ y2.heap.size → y6.heap[k]? = y5.heap[k]? := fun k hk => by rw [← hy6]; exact setRow_other _ _ _ _ hk
      rw [hy6] at hN HUx hPx ⊢
      clear hy6
      have HU6 := Lib.hid HUx
      clear HUx
      have HP6 := Lib.hid hPx
      have hz6 := HU6.out.size
      have hr6_0 := (hO _ (by omega)).trans hr5_0
      have hr6_1 := (hO _ (by omega)).trans hr5_1
      have hr6_2 := hN
      clear hN
      refine hK.out _ _ ((hO _ (by omega)).trans hS5c) (fun hS6s => ?_)
      clear hK K
      refine wpAnyH_done (by kernel_rfl) ?_ _
      go_wp2_with fail
      go_meet
      exact ⟨_, rfl, by omega, hr6_2, hr6_0, hr6_1, HP6, HU6⟩
  case rest =>
    obtain ⟨gs, rfl, hgs, hr20_2, hr20_0, hr20_1, HP20, HU20⟩ := hcut
    rename World => y20
    have hz20 := HU20.out.size
    have hl20_2 := lt_heap hr20_2
    have HWL0 := Lib.hid hr20_0
    have HWZ0 := Lib.hid (show (Tryz.prog.info? 59).map (·.size) = some (#[.pointer (some ⟨g, 0, none⟩)] : Array Value).size by kernel_rfl)
    go_wp2_with (first | (with_reducible refine wpList_load_row rfl 59 (.tmp 1) rfl (w.heap.size) rfl 59 #[.pointer (some ⟨g, 0, none⟩)] (0, 0) _ HWL0.out Tryz.underlying59 rfl HWZ0.out ?_))
    clear HWL0 HWZ0
    refine (HC4.out _ HP20.out (by omega) (by omega)).mono ?_
    rintro e y21 ⟨rfl, hp21, hb21⟩
    have HP21 := Lib.hid hp21
    have hz21 := hb21.size
    have hr21_0 := (hb21.block _ (lt_heap hr20_0) (lt_heap hr20_0) (by omega)).trans hr20_0
    have hr21_1 := (hb21.block _ (lt_heap hr20_1) (lt_heap hr20_1) (by omega)).trans hr20_1
    have hr21_2 := (hb21.block _ (lt_heap hr20_2) (lt_heap hr20_2) (by omega)).trans hr20_2
    have HU21 := Lib.hid (HU20.out.trans (hb21.mono HU20.out.size))
    clear hr20_0 hr20_1 hr20_2 HU20
    have HWL0 := Lib.hid hr21_0
    have HWZ0 := Lib.hid (show (Tryz.prog.info? 59).map (·.size) = some (#[.pointer (some ⟨g, 0, none⟩)] : Array Value).size by kernel_rfl)
    go_wp2_with (first | (with_reducible refine wpList_load_row rfl 59 (.tmp 1) rfl (w.heap.size) rfl 59 #[.pointer (some ⟨g, 0, none⟩)] (0, 0) _ HWL0.out Tryz.underlying59 rfl HWZ0.out ?_))
    clear HWL0 HWZ0
    refine (HC5.out _ HP21.out (by omega) (by omega)).mono ?_
    rintro e y22 ⟨rfl, hp22, hb22⟩
    have HP22 := Lib.hid hp22
    have hz22 := hb22.size
    have hr22_0 := (hb22.block _ (lt_heap hr21_0) (lt_heap hr21_0) (by omega)).trans hr21_0
    have hr22_1 := (hb22.block _ (lt_heap hr21_1) (lt_heap hr21_1) (by omega)).trans hr21_1
    have hr22_2 := (hb22.block _ (lt_heap hr21_2) (lt_heap hr21_2) (by omega)).trans hr21_2
    have HU22 := Lib.hid (HU21.out.trans (hb22.mono HU21.out.size))
    clear hr21_0 hr21_1 hr21_2 HU21
    have HWL0 := Lib.hid hr22_0
    have HWZ0 := Lib.hid (show (Tryz.prog.info? 59).map (·.size) = some (#[.pointer (some ⟨g, 0, none⟩)] : Array Value).size by kernel_rfl)
    go_wp2_with (first | (with_reducible refine wpList_load_row rfl 59 (.tmp 1) rfl (w.heap.size) rfl 59 #[.pointer (some ⟨g, 0, none⟩)] (0, 0) _ HWL0.out Tryz.underlying59 rfl HWZ0.out ?_))
    clear HWL0 HWZ0
    refine (HC6.out _ HP22.out (by omega) (by omega)).mono ?_
    rintro e y23 ⟨rfl, hp23, hb23⟩
    have HP23 := Lib.hid hp23
    have hz23 := hb23.size
    have hr23_0 := (hb23.block _ (lt_heap hr22_0) (lt_heap hr22_0) (by omega)).trans hr22_0
    have hr23_1 := (hb23.block _ (lt_heap hr22_1) (lt_heap hr22_1) (by omega)).trans hr22_1
    have hr23_2 := (hb23.block _ (lt_heap hr22_2) (lt_heap hr22_2) (by omega)).trans hr22_2
    have HU23 := Lib.hid (HU22.out.trans (hb23.mono HU22.out.size))
    clear hr22_0 hr22_1 hr22_2 HU22
    have HWL0 := Lib.hid hr23_0
    have HWZ0 := Lib.hid (show (Tryz.prog.info? 59).map (·.size) = some (#[.pointer (some ⟨g, 0, none⟩)] : Array Value).size by kernel_rfl)
    go_wp2_with (first | (with_reducible refine wpList_load_row rfl 59 (.tmp 1) rfl (w.heap.size) rfl 59 #[.pointer (some ⟨g, 0, none⟩)] (0, 0) _ HWL0.out Tryz.underlying59 rfl HWZ0.out ?_))
    clear HWL0 HWZ0
    refine (HC7.out _ HP23.out (by omega) (by omega)).mono ?_
    rintro e y24 ⟨rfl, hp24, hb24⟩
    have HP24 := Lib.hid hp24
    have hz24 := hb24.size
    have hr24_0 := (hb24.block _ (lt_heap hr23_0) (lt_heap hr23_0) (by omega)).trans hr23_0
    have hr24_1 := (hb24.block _ (lt_heap hr23_1) (lt_heap hr23_1) (by omega)).trans hr23_1
    have hr24_2 := (hb24.block _ (lt_heap hr23_2) (lt_heap hr23_2) (by omega)).trans hr23_2
    have HU24 := Lib.hid (HU23.out.trans (hb24.mono HU23.out.size))
    clear hr23_0 hr23_1 hr23_2 HU23
    have HWL0 := Lib.hid hr24_0
    have HWZ0 := Lib.hid (show (Tryz.prog.info? 59).map (·.size) = some (#[.pointer (some ⟨g, 0, none⟩)] : Array Value).size by kernel_rfl)
    go_wp2_with (first | (with_reducible refine wpList_load_row rfl 59 (.tmp 1) rfl (w.heap.size) rfl 59 #[.pointer (some ⟨g, 0, none⟩)] (0, 0) _ HWL0.out Tryz.underlying59 rfl HWZ0.out ?_))
    clear HWL0 HWZ0
    refine (HC8.out _ HP24.out (by omega) (by omega)).mono ?_
    rintro e y25 ⟨⟨pa, pc, rfl, hla⟩, hp25, hb25⟩
    have HP25 := Lib.hid hp25
    have hz25 := hb25.size
    have hr25_0 := (hb25.block _ (lt_heap hr24_0) (lt_heap hr24_0) (by omega)).trans hr24_0
    have hr25_1 := (hb25.block _ (lt_heap hr24_1) (lt_heap hr24_1) (by omega)).trans hr24_1
    have hr25_2 := (hb25.block _ (lt_heap hr24_2) (lt_heap hr24_2) (by omega)).trans hr24_2
    have HU25 := Lib.hid (HU24.out.trans (hb25.mono HU24.out.size))
    clear hr24_0 hr24_1 hr24_2 HU24
    have HLp25 := Lib.hid hla
    clear hla
    have hl25_2 := lt_heap hr25_2
    have kk := cell_of_row _ _ 13 _ _ _ hr25_2
    simp at kk
    have fz : ∀ j, y25.frozen? ⟨gs, j, none⟩ = false := fun j => by simp [World.frozen?, hr25_2]
    go_upto_region 8 with fail
    clear fz
    have hN : (y25.setCell ⟨gs, 13, none⟩ (.slice pa n1 pc)).heap[gs]? = some (.cells #[.int .i64 va0, .int .i64 va1, .int .i64 va2, .int .i64 va3, .int .i64 va4, .int .i64 va5, .int .u64 (va6 : Int), .int .i64 va7, .int .i64 va8, .int .i64 va9, .int .i64 va10, .int .i64 va11, .int .i64 va12, .slice pa n1 pc, .slice none 0 0, .slice none 0 0, .slice none 0 0] 36 (0, 0)) := heap_setCell_same _ _ 13 _ _ _ hr25_2
    have hO : ∀ kk, kk ≠ gs → (y25.setCell ⟨gs, 13, none⟩ (.slice pa n1 pc)).heap[kk]? = y25.heap[kk]? := fun kk hk => Below.heap_setCell _ _ _ _ hk
    have HUx := HU25.out.setNew (b := gs) (by omega) (by omega) 13 (.slice pa n1 pc)
    have hPx := HP25.out.set (b := gs) (by omega) 13 (.slice pa n1 pc)
    obtain ⟨y26, hy26⟩ : ∃ y, y25.setCell ⟨gs, 13, none⟩ (.slice pa n1 pc) = y := ⟨_, rfl⟩
    rw [hy26] at hN hO HUx hPx ⊢
    clear hy26
    have HU26 := Lib.hid HUx
    have HP26 := Lib.hid hPx
    have hz26 := HU26.out.size
    have hr26_0 := (hO _ (by omega)).trans hr25_0
    have hr26_1 := (hO _ (by omega)).trans hr25_1
    have hr26_2 := hN
    have HLp26 := Lib.hid (HLp25.out.heap (fun k h => hO k (by omega)))
    clear HLp25
    clear hN hO HUx
    clear hr25_0 hr25_1 hr25_2 HU25
    clear kk
    have hl26_2 := lt_heap hr26_2
    have HWL0 := Lib.hid hr26_0
    have HWZ0 := Lib.hid (show (Tryz.prog.info? 59).map (·.size) = some (#[.pointer (some ⟨g, 0, none⟩)] : Array Value).size by kernel_rfl)
    go_wp2_with (first | (with_reducible refine wpList_load_row rfl 59 (.tmp 1) rfl (w.heap.size) rfl 59 #[.pointer (some ⟨g, 0, none⟩)] (0, 0) _ HWL0.out Tryz.underlying59 rfl HWZ0.out ?_))
    clear HWL0 HWZ0
    refine (HC9.out _ HP26.out (by omega) (by omega)).mono ?_
    rintro e y27 ⟨⟨ta, tc, rfl, hla⟩, hp27, hb27⟩
    have HP27 := Lib.hid hp27
    have hz27 := hb27.size
    have hr27_0 := (hb27.block _ (lt_heap hr26_0) (lt_heap hr26_0) (by omega)).trans hr26_0
    have hr27_1 := (hb27.block _ (lt_heap hr26_1) (lt_heap hr26_1) (by omega)).trans hr26_1
    have hr27_2 := (hb27.block _ (lt_heap hr26_2) (lt_heap hr26_2) (by omega)).trans hr26_2
    have HU27 := Lib.hid (HU26.out.trans (hb27.mono HU26.out.size))
    have HLp27 := Lib.hid (HLp26.out.aft hb27 (by omega))
    clear HLp26
    clear hr26_0 hr26_1 hr26_2 HU26
    have HLt27 := Lib.hid hla
    clear hla
    have hl27_2 := lt_heap hr27_2
    have kk := cell_of_row _ _ 14 _ _ _ hr27_2
    simp at kk
    have fz : ∀ j, y27.frozen? ⟨gs, j, none⟩ = false := fun j => by simp [World.frozen?, hr27_2]
    go_upto_region 9 with fail
    clear fz
    have hN : (y27.setCell ⟨gs, 14, none⟩ (.slice ta n2 tc)).heap[gs]? = some (.cells #[.int .i64 va0, .int .i64 va1, .int .i64 va2, .int .i64 va3, .int .i64 va4, .int .i64 va5, .int .u64 (va6 : Int), .int .i64 va7, .int .i64 va8, .int .i64 va9, .int .i64 va10, .int .i64 va11, .int .i64 va12, .slice pa n1 pc, .slice ta n2 tc, .slice none 0 0, .slice none 0 0] 36 (0, 0)) := heap_setCell_same _ _ 14 _ _ _ hr27_2
    have hO : ∀ kk, kk ≠ gs → (y27.setCell ⟨gs, 14, none⟩ (.slice ta n2 tc)).heap[kk]? = y27.heap[kk]? := fun kk hk => Below.heap_setCell _ _ _ _ hk
    have HUx := HU27.out.setNew (b := gs) (by omega) (by omega) 14 (.slice ta n2 tc)
    have hPx := HP27.out.set (b := gs) (by omega) 14 (.slice ta n2 tc)
    obtain ⟨y28, hy28⟩ : ∃ y, y27.setCell ⟨gs, 14, none⟩ (.slice ta n2 tc) = y := ⟨_, rfl⟩
    rw [hy28] at hN hO HUx hPx ⊢
    clear hy28
    have HU28 := Lib.hid HUx
    have HP28 := Lib.hid hPx
    have hz28 := HU28.out.size
    have hr28_0 := (hO _ (by omega)).trans hr27_0
    have hr28_1 := (hO _ (by omega)).trans hr27_1
    have hr28_2 := hN
    have HLp28 := Lib.hid (HLp27.out.heap (fun k h => hO k (by omega)))
    clear HLp27
    have HLt28 := Lib.hid (HLt27.out.heap (fun k h => hO k (by omega)))
    clear HLt27
    clear hN hO HUx
    clear hr27_0 hr27_1 hr27_2 HU27
    clear kk
    have hl28_2 := lt_heap hr28_2
    have HWL0 := Lib.hid hr28_0
    have HWZ0 := Lib.hid (show (Tryz.prog.info? 59).map (·.size) = some (#[.pointer (some ⟨g, 0, none⟩)] : Array Value).size by kernel_rfl)
    go_wp2_with (first | (with_reducible refine wpList_load_row rfl 59 (.tmp 1) rfl (w.heap.size) rfl 59 #[.pointer (some ⟨g, 0, none⟩)] (0, 0) _ HWL0.out Tryz.underlying59 rfl HWZ0.out ?_))
    clear HWL0 HWZ0
    refine (HC10.out _ HP28.out (by omega) (by omega)).mono ?_
    rintro e y29 ⟨⟨ja, jc, rfl, hla⟩, hp29, hb29⟩
    have HP29 := Lib.hid hp29
    have hz29 := hb29.size
    have hr29_0 := (hb29.block _ (lt_heap hr28_0) (lt_heap hr28_0) (by omega)).trans hr28_0
    have hr29_1 := (hb29.block _ (lt_heap hr28_1) (lt_heap hr28_1) (by omega)).trans hr28_1
    have hr29_2 := (hb29.block _ (lt_heap hr28_2) (lt_heap hr28_2) (by omega)).trans hr28_2
    have HU29 := Lib.hid (HU28.out.trans (hb29.mono HU28.out.size))
    have HLp29 := Lib.hid (HLp28.out.aft hb29 (by omega))
    clear HLp28
    have HLt29 := Lib.hid (HLt28.out.aft hb29 (by omega))
    clear HLt28
    clear hr28_0 hr28_1 hr28_2 HU28
    have HLj29 := Lib.hid hla
    clear hla
    have hl29_2 := lt_heap hr29_2
    have kk := cell_of_row _ _ 15 _ _ _ hr29_2
    simp at kk
    have fz : ∀ j, y29.frozen? ⟨gs, j, none⟩ = false := fun j => by simp [World.frozen?, hr29_2]
    go_upto_region 10 with fail
    clear fz
    have hN : (y29.setCell ⟨gs, 15, none⟩ (.slice ja n3 jc)).heap[gs]? = some (.cells #[.int .i64 va0, .int .i64 va1, .int .i64 va2, .int .i64 va3, .int .i64 va4, .int .i64 va5, .int .u64 (va6 : Int), .int .i64 va7, .int .i64 va8, .int .i64 va9, .int .i64 va10, .int .i64 va11, .int .i64 va12, .slice pa n1 pc, .slice ta n2 tc, .slice ja n3 jc, .slice none 0 0] 36 (0, 0)) := heap_setCell_same _ _ 15 _ _ _ hr29_2
    have hO : ∀ kk, kk ≠ gs → (y29.setCell ⟨gs, 15, none⟩ (.slice ja n3 jc)).heap[kk]? = y29.heap[kk]? := fun kk hk => Below.heap_setCell _ _ _ _ hk
    have HUx := HU29.out.setNew (b := gs) (by omega) (by omega) 15 (.slice ja n3 jc)
    have hPx := HP29.out.set (b := gs) (by omega) 15 (.slice ja n3 jc)
    obtain ⟨y30, hy30⟩ : ∃ y, y29.setCell ⟨gs, 15, none⟩ (.slice ja n3 jc) = y := ⟨_, rfl⟩
    rw [hy30] at hN hO HUx hPx ⊢
    clear hy30
    have HU30 := Lib.hid HUx
    have HP30 := Lib.hid hPx
    have hz30 := HU30.out.size
    have hr30_0 := (hO _ (by omega)).trans hr29_0
    have hr30_1 := (hO _ (by omega)).trans hr29_1
    have hr30_2 := hN
    have HLp30 := Lib.hid (HLp29.out.heap (fun k h => hO k (by omega)))
    clear HLp29
    have HLt30 := Lib.hid (HLt29.out.heap (fun k h => hO k (by omega)))
    clear HLt29
    have HLj30 := Lib.hid (HLj29.out.heap (fun k h => hO k (by omega)))
    clear HLj29
    clear hN hO HUx
    clear hr29_0 hr29_1 hr29_2 HU29
    clear kk
    have hl30_2 := lt_heap hr30_2
    have HWL0 := Lib.hid hr30_0
    have HWZ0 := Lib.hid (show (Tryz.prog.info? 59).map (·.size) = some (#[.pointer (some ⟨g, 0, none⟩)] : Array Value).size by kernel_rfl)
    go_wp2_with (first | (with_reducible refine wpList_load_row rfl 59 (.tmp 1) rfl (w.heap.size) rfl 59 #[.pointer (some ⟨g, 0, none⟩)] (0, 0) _ HWL0.out Tryz.underlying59 rfl HWZ0.out ?_))
    clear HWL0 HWZ0
    refine (HC11.out _ HP30.out (by omega) (by omega)).mono ?_
    rintro e y31 ⟨⟨sa, sc, rfl, hla⟩, hp31, hb31⟩
    have HP31 := Lib.hid hp31
    have hz31 := hb31.size
    have hr31_0 := (hb31.block _ (lt_heap hr30_0) (lt_heap hr30_0) (by omega)).trans hr30_0
    have hr31_1 := (hb31.block _ (lt_heap hr30_1) (lt_heap hr30_1) (by omega)).trans hr30_1
    have hr31_2 := (hb31.block _ (lt_heap hr30_2) (lt_heap hr30_2) (by omega)).trans hr30_2
    have HU31 := Lib.hid (HU30.out.trans (hb31.mono HU30.out.size))
    have HLp31 := Lib.hid (HLp30.out.aft hb31 (by omega))
    clear HLp30
    have HLt31 := Lib.hid (HLt30.out.aft hb31 (by omega))
    clear HLt30
    have HLj31 := Lib.hid (HLj30.out.aft hb31 (by omega))
    clear HLj30
    clear hr30_0 hr30_1 hr30_2 HU30
    have HLs31 := Lib.hid hla
    clear hla
    have hl31_2 := lt_heap hr31_2
    have kk := cell_of_row _ _ 16 _ _ _ hr31_2
    simp at kk
    have fz : ∀ j, y31.frozen? ⟨gs, j, none⟩ = false := fun j => by simp [World.frozen?, hr31_2]
    go_upto_region 11 with fail
    clear fz
    have hN : (y31.setCell ⟨gs, 16, none⟩ (.slice sa n4 sc)).heap[gs]? = some (.cells #[.int .i64 va0, .int .i64 va1, .int .i64 va2, .int .i64 va3, .int .i64 va4, .int .i64 va5, .int .u64 (va6 : Int), .int .i64 va7, .int .i64 va8, .int .i64 va9, .int .i64 va10, .int .i64 va11, .int .i64 va12, .slice pa n1 pc, .slice ta n2 tc, .slice ja n3 jc, .slice sa n4 sc] 36 (0, 0)) := heap_setCell_same _ _ 16 _ _ _ hr31_2
    have hO : ∀ kk, kk ≠ gs → (y31.setCell ⟨gs, 16, none⟩ (.slice sa n4 sc)).heap[kk]? = y31.heap[kk]? := fun kk hk => Below.heap_setCell _ _ _ _ hk
    have HUx := HU31.out.setNew (b := gs) (by omega) (by omega) 16 (.slice sa n4 sc)
    have hPx := HP31.out.set (b := gs) (by omega) 16 (.slice sa n4 sc)
    obtain ⟨y32, hy32⟩ : ∃ y, y31.setCell ⟨gs, 16, none⟩ (.slice sa n4 sc) = y := ⟨_, rfl⟩
    rw [hy32] at hN hO HUx hPx ⊢
    clear hy32
    have HU32 := Lib.hid HUx
    have HP32 := Lib.hid hPx
    have hz32 := HU32.out.size
    have hr32_0 := (hO _ (by omega)).trans hr31_0
    have hr32_1 := (hO _ (by omega)).trans hr31_1
    have hr32_2 := hN
    have HLp32 := Lib.hid (HLp31.out.heap (fun k h => hO k (by omega)))
    clear HLp31
    have HLt32 := Lib.hid (HLt31.out.heap (fun k h => hO k (by omega)))
    clear HLt31
    have HLj32 := Lib.hid (HLj31.out.heap (fun k h => hO k (by omega)))
    clear HLj31
    have HLs32 := Lib.hid (HLs31.out.heap (fun k h => hO k (by omega)))
    clear HLs31
    clear hN hO HUx
    clear hr31_0 hr31_1 hr31_2 HU31
    clear kk
    have hl32_2 := lt_heap hr32_2
    have HWL := Lib.hid hr32_2
    have HWZ := Lib.hid (show (Tryz.prog.info? 36).map (·.size) = some (#[.int .i64 va0, .int .i64 va1, .int .i64 va2, .int .i64 va3, .int .i64 va4, .int .i64 va5, .int .u64 (va6 : Int), .int .i64 va7, .int .i64 va8, .int .i64 va9, .int .i64 va10, .int .i64 va11, .int .i64 va12, .slice pa n1 pc, .slice ta n2 tc, .slice ja n3 jc, .slice sa n4 sc] : Array Value).size by kernel_rfl)
    have hHr := Lib.hid hr32_1
    have hHi := Lib.hid (show (Tryz.prog.info? 36).map (·.size) = some (#[.int .i64 va0, .int .i64 va1, .int .i64 va2, .int .i64 va3, .int .i64 va4, .int .i64 va5, .int .u64 (va6 : Int), .int .i64 va7, .int .i64 va8, .int .i64 va9, .int .i64 va10, .int .i64 va11, .int .i64 va12, .slice pa n1 pc, .slice ta n2 tc, .slice ja n3 jc, .slice sa n4 sc] : Array Value).size by kernel_rfl)
    have hHz := Lib.hid (show (#[.int .i64 0, .int .i64 0, .int .i64 0, .int .i64 0, .int .i64 0, .int .i64 0, .int .u64 0, .int .i64 0, .int .i64 0, .int .i64 0, .int .i64 0, .int .i64 0, .int .i64 0, .slice none 0 0, .slice none 0 0, .slice none 0 0, .slice none 0 0] : Array Value).size = (#[.int .i64 va0, .int .i64 va1, .int .i64 va2, .int .i64 va3, .int .i64 va4, .int .i64 va5, .int .u64 (va6 : Int), .int .i64 va7, .int .i64 va8, .int .i64 va9, .int .i64 va10, .int .i64 va11, .int .i64 va12, .slice pa n1 pc, .slice ta n2 tc, .slice ja n3 jc, .slice sa n4 sc] : Array Value).size from rfl)
    have hHo := Lib.hid (show (#[.int .i64 va0, .int .i64 va1, .int .i64 va2, .int .i64 va3, .int .i64 va4, .int .i64 va5, .int .u64 (va6 : Int), .int .i64 va7, .int .i64 va8, .int .i64 va9, .int .i64 va10, .int .i64 va11, .int .i64 va12, .slice pa n1 pc, .slice ta n2 tc, .slice ja n3 jc, .slice sa n4 sc] : Array Value).all (·.oneCell') = true by simp [Value.oneCell'])
    go_wp2_with (first | (with_reducible refine wpList_load_row rfl 36 (.tmp 3) rfl gs rfl 36 #[.int .i64 va0, .int .i64 va1, .int .i64 va2, .int .i64 va3, .int .i64 va4, .int .i64 va5, .int .u64 (va6 : Int), .int .i64 va7, .int .i64 va8, .int .i64 va9, .int .i64 va10, .int .i64 va11, .int .i64 va12, .slice pa n1 pc, .slice ta n2 tc, .slice ja n3 jc, .slice sa n4 sc] (0, 0) _ HWL.out Tryz.underlying36 rfl HWZ.out ?_) | (refine Au.wpList_store_row rfl 36 (.tmp 2) (.tmp 43) rfl y32 #[.int .i64 0, .int .i64 0, .int .i64 0, .int .i64 0, .int .i64 0, .int .i64 0, .int .u64 0, .int .i64 0, .int .i64 0, .int .i64 0, .int .i64 0, .int .i64 0, .int .i64 0, .slice none 0 0, .slice none 0 0, .slice none 0 0, .slice none 0 0] #[.int .i64 va0, .int .i64 va1, .int .i64 va2, .int .i64 va3, .int .i64 va4, .int .i64 va5, .int .u64 (va6 : Int), .int .i64 va7, .int .i64 va8, .int .i64 va9, .int .i64 va10, .int .i64 va11, .int .i64 va12, .slice pa n1 pc, .slice ta n2 tc, .slice ja n3 jc, .slice sa n4 sc] (w.heap.size + 1) 36 hHr.out rfl rfl hHi.out hHz.out hHo.out ?_))
    clear hHr hHi hHz hHo
    have hN := setRow_heap _ (w.heap.size + 1) _ #[.int .i64 va0, .int .i64 va1, .int .i64 va2, .int .i64 va3, .int .i64 va4, .int .i64 va5, .int .u64 (va6 : Int), .int .i64 va7, .int .i64 va8, .int .i64 va9, .int .i64 va10, .int .i64 va11, .int .i64 va12, .slice pa n1 pc, .slice ta n2 tc, .slice ja n3 jc, .slice sa n4 sc] _ _ hr32_1
    have hsz := HU32.out.size
    have HUx := aft_setRow (k := w.heap.size + 1) HU32.out (by omega) (by omega) #[.int .i64 va0, .int .i64 va1, .int .i64 va2, .int .i64 va3, .int .i64 va4, .int .i64 va5, .int .u64 (va6 : Int), .int .i64 va7, .int .i64 va8, .int .i64 va9, .int .i64 va10, .int .i64 va11, .int .i64 va12, .slice pa n1 pc, .slice ta n2 tc, .slice ja n3 jc, .slice sa n4 sc]
    have hPx := rp_setRow (k := w.heap.size + 1) HP32.out (by omega) #[.int .i64 va0, .int .i64 va1, .int .i64 va2, .int .i64 va3, .int .i64 va4, .int .i64 va5, .int .u64 (va6 : Int), .int .i64 va7, .int .i64 va8, .int .i64 va9, .int .i64 va10, .int .i64 va11, .int .i64 va12, .slice pa n1 pc, .slice ta n2 tc, .slice ja n3 jc, .slice sa n4 sc]
    have hO : ∀ kk, kk ≠ w.heap.size + 1 → (y32.setRow (w.heap.size + 1) #[.int .i64 va0, .int .i64 va1, .int .i64 va2, .int .i64 va3, .int .i64 va4, .int .i64 va5, .int .u64 (va6 : Int), .int .i64 va7, .int .i64 va8, .int .i64 va9, .int .i64 va10, .int .i64 va11, .int .i64 va12, .slice pa n1 pc, .slice ta n2 tc, .slice ja n3 jc, .slice sa n4 sc]).heap[kk]? = y32.heap[kk]? := fun kk hk => setRow_other _ _ _ _ hk
    obtain ⟨y33, hy33⟩ : ∃ y, y32.setRow (w.heap.size + 1) #[.int .i64 va0, .int .i64 va1, .int .i64 va2, .int .i64 va3, .int .i64 va4, .int .i64 va5, .int .u64 (va6 : Int), .int .i64 va7, .int .i64 va8, .int .i64 va9, .int .i64 va10, .int .i64 va11, .int .i64 va12, .slice pa n1 pc, .slice ta n2 tc, .slice ja n3 jc, .slice sa n4 sc] = y := ⟨_, rfl⟩
    rw [hy33] at hN HUx hO hPx ⊢
    clear hy33 hsz
    have HU33 := Lib.hid HUx
    clear HUx
    have HP33 := Lib.hid hPx
    have hz33 := HU33.out.size
    have hr33_0 := (hO _ (by omega)).trans hr32_0
    have hr33_1 := hN
    have hr33_2 := (hO _ (by omega)).trans hr32_2
    clear hN
    clear hr32_0 hr32_1 hr32_2 HU32
    clear HWL HWZ
    go_wp2
    all_goals exact bodyPost_ret (v := .agg #[.int .i64 va0, .int .i64 va1, .int .i64 va2, .int .i64 va3, .int .i64 va4, .int .i64 va5, .int .u64 (va6 : Int), .int .i64 va7, .int .i64 va8, .int .i64 va9, .int .i64 va10, .int .i64 va11, .int .i64 va12, .slice pa n1 pc, .slice ta n2 tc, .slice ja n3 jc, .slice sa n4 sc]) (results_row (t := 36) Tryz.results10 rfl hr33_1 Tryz.underlying36 rfl (by kernel_rfl)) rfl ⟨⟨pa, pc, ta, tc, ja, jc, sa, sc, rfl, (HLp32.out.heap (fun k h => hO k (by omega))).low (by omega), (HLt32.out.heap (fun k h => hO k (by omega))).low (by omega), (HLj32.out.heap (fun k h => hO k (by omega))).low (by omega), (HLs32.out.heap (fun k h => hO k (by omega))).low (by omega)⟩, HP33.out, HU33.out⟩

end Go.Proofs.YtplcbdmiccpnnaaGreat.Jb
