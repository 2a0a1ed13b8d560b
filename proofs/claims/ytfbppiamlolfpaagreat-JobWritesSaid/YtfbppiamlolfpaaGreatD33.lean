/- Jobs: a whole scene, laid by a writer, by the program. -/
import Derived.Test.YtfbppiamlolfpaaGreatD22
import Derived.Test.YtfbppiamlolfpaaGreatD27
import Derived.Lib.SlBytesConst
namespace Go.Proofs.YtfbppiamlolfpaaGreat.Jw
open Go.RowKit Go.Proofs.YtfbppiamlolfpaaGreat Go.Proofs.YtfbppiamlolfpaaGreat.Rp Go.Proofs.YtfbppiamlolfpaaGreat.Re Go.Proofs.YtfbppiamlolfpaaGreat.Au Go.Proofs.YtfbppiamlolfpaaGreat.Tk Go.Proofs.YtfbppiamlolfpaaGreat.Sc
set_option linter.unusedVariables false
set_option linter.unusedSimpArgs false

/-- what every job begins with -/
def mgk : Nat → Nat
  | 0 => 90
  | 1 => 79
  | 2 => 69
  | _ => 49

theorem mgk_lt (k : Nat) : mgk k < 256 := by
  unfold mgk; split <;> omega

def mgL : Nat → List UInt8
  | 0 => []
  | k + 1 => mgL k ++ bytesOf (u64 (mgk k : Int)) 1

theorem mgL_length (k : Nat) : (mgL k).length = k := by
  induction k with
  | zero => rfl
  | succ k ih => simp only [mgL, List.length_append, ih, bytesOf_length]

/-- the bytes of some paints -/
def paintsOf (P : Nat → Int) : Nat → List UInt8
  | 0 => []
  | k + 1 => paintsOf P k ++ (numsOf 1 [P (k * 5)] ++ (numsOf 5 [P (k * 5 + 1), P (k * 5 + 2), P (k * 5 + 3)] ++ numsOf 5 [P (k * 5 + 4)]))

theorem paintsOf_length (P : Nat → Int) (k : Nat) : (paintsOf P k).length = k * 21 := by
  induction k with
  | zero => rfl
  | succ k ih => simp only [paintsOf, List.length_append, ih, numsOf_length, List.length_cons, List.length_nil]; omega

/-- the bytes of some tracks -/
def tracksOf (way : Nat → Int) (kn : Nat → Nat) (K : Nat → Nat → Int) : Nat → List UInt8
  | 0 => []
  | k + 1 => tracksOf way kn K k ++ (numsOf 1 [way k, (kn k : Int)] ++ keysOf (K k) (kn k))

theorem tracksOf_length (way : Nat → Int) (kn : Nat → Nat) (K : Nat → Nat → Int) (n : Nat) (h : ∀ i, i < n → kn i ≤ 200) : ∀ k, k ≤ n → (tracksOf way kn K k).length ≤ k * 4002 := by
  intro k
  induction k with
  | zero => intro _; exact Nat.le_refl _
  | succ k ih =>
    intro hk
    have h1 := ih (by omega)
    have h2 := h k (by omega)
    simp only [tracksOf, List.length_append, numsOf_length, keysOf_length, List.length_cons, List.length_nil]
    omega

/-- the bytes of some joints -/
def jointsOf (J : Nat → Int) : Nat → List UInt8
  | 0 => []
  | k + 1 => jointsOf J k ++ (numsOf 2 [J (k * 4), J (k * 4 + 1), J (k * 4 + 2)] ++ numsOf 5 [J (k * 4 + 3)])

theorem jointsOf_length (J : Nat → Int) (k : Nat) : (jointsOf J k).length = k * 11 := by
  induction k with
  | zero => rfl
  | succ k ih => simp only [jointsOf, List.length_append, ih, numsOf_length, List.length_cons, List.length_nil]; omega

/-- the bytes of a shape -/
def shpB (j p k ax ay az bx by_ bz cx cy cz q : Int) : List UInt8 :=
  numsOf 2 [j, p] ++ (numsOf 1 [k] ++ (if k = 0 then numsOf 5 [ax, ay, az] ++ numsOf 5 [q] else numsOf 5 [ax, ay, az, bx, by_, bz, cx, cy, cz]))

theorem shpB_length (j p k ax ay az bx by_ bz cx cy cz q : Int) : (shpB j p k ax ay az bx by_ bz cx cy cz q).length ≤ 50 := by
  unfold shpB
  split <;> simp only [List.length_append, numsOf_length, List.length_cons, List.length_nil] <;> omega

theorem wshape (g B : Nat) (l : List UInt8) (j p k ax ay az bx by_ bz cx cy cz q : Int) (w : World) (hw : WP g B l w) (hl : l.length ≤ 10000000) :
    Calls Tryz.prog 55 #[.agg #[.pointer (some ⟨g, 0, none⟩)], .agg #[.int .i64 j, .int .i64 p, .int .i64 k, .int .i64 ax, .int .i64 ay, .int .i64 az, .int .i64 bx, .int .i64 by_, .int .i64 bz, .int .i64 cx, .int .i64 cy, .int .i64 cz, .int .i64 q]] w fun e' w' => e' = .returned (.tuple #[]) ∧ WP g B (l ++ shpB j p k ax ay az bx by_ bz cx cy cz q) w' ∧ Aft g B w w' := by
  by_cases hk : k = 0
  · subst hk
    have h := wshape_ball g B l j p ax ay az bx by_ bz cx cy cz q w hw hl
    unfold shpB
    rw [if_pos rfl, ← List.append_assoc, ← List.append_assoc, ← List.append_assoc]
    exact h
  · have h := wshape_face g B l j p k ax ay az bx by_ bz cx cy cz q w hw hl hk
    unfold shpB
    rw [if_neg hk, ← List.append_assoc, ← List.append_assoc]
    exact h

/-- the bytes of some shapes -/
def shapesOf (S : Nat → Int) : Nat → List UInt8
  | 0 => []
  | k + 1 => shapesOf S k ++ shpB (S (k * 13)) (S (k * 13 + 1)) (S (k * 13 + 2)) (S (k * 13 + 3)) (S (k * 13 + 4)) (S (k * 13 + 5)) (S (k * 13 + 6)) (S (k * 13 + 7)) (S (k * 13 + 8)) (S (k * 13 + 9)) (S (k * 13 + 10)) (S (k * 13 + 11)) (S (k * 13 + 12))

theorem shapesOf_length (S : Nat → Int) (k : Nat) : (shapesOf S k).length ≤ k * 50 := by
  induction k with
  | zero => exact Nat.le_refl _
  | succ k ih =>
    have := shpB_length (S (k * 13)) (S (k * 13 + 1)) (S (k * 13 + 2)) (S (k * 13 + 3)) (S (k * 13 + 4)) (S (k * 13 + 5)) (S (k * 13 + 6)) (S (k * 13 + 7)) (S (k * 13 + 8)) (S (k * 13 + 9)) (S (k * 13 + 10)) (S (k * 13 + 11)) (S (k * 13 + 12))
    simp only [shapesOf, List.length_append]
    omega

/-- tracks that stay while a writer writes -/
def TrkAll (g B : Nat) (w : World) (ta : Option Addr) (nt : Nat) (way : Nat → Int) (kn : Nat → Nat) (K : Nat → Nat → Int) : Prop :=
  nt = 0 ∨ ∃ b off, ta = some ⟨b, off, none⟩ ∧ ∀ i, i < nt → ∃ ka kc, ∀ W, Aft g B w W → W.cell? ⟨b, off + i * 2, none⟩ = some (.int .i64 (way i)) ∧ W.cell? ⟨b, off + i * 2 + 1, none⟩ = some (.slice ka (kn i) kc) ∧ KeysAt W ka (kn i) (K i)

theorem TrkAll.at {g B : Nat} {w : World} {ta : Option Addr} {nt i : Nat} {way : Nat → Int} {kn : Nat → Nat} {K : Nat → Nat → Int} (h : TrkAll g B w ta nt way kn K) (hi : i < nt) : ∃ b off ka kc, ta = some ⟨b, off, none⟩ ∧ ∀ W, Aft g B w W → W.cell? ⟨b, off + i * 2, none⟩ = some (.int .i64 (way i)) ∧ W.cell? ⟨b, off + i * 2 + 1, none⟩ = some (.slice ka (kn i) kc) ∧ KeysAt W ka (kn i) (K i) := by
  rcases h with h | ⟨b, off, e, h⟩
  · omega
  · obtain ⟨ka, kc, h⟩ := h i hi
    exact ⟨b, off, ka, kc, e, h⟩

/-- the bytes of a scene -/
def sceneB (a1 a2 a3 a4 a5 a6 : Int) (sd : Nat) (r1 r2 r3 e1 e2 e3 : Int) (np nt nj ns : Nat) (P : Nat → Int) (way : Nat → Int) (kn : Nat → Nat) (K : Nat → Nat → Int) (J S : Nat → Int) : List UInt8 :=
  mgL 4 ++ numsOf 2 [a1, a2, a3, a4, a5] ++ numsOf 5 [a6] ++ bytesOf sd 8 ++ numsOf 5 [r1, r2, r3] ++ numsOf 2 [e1, e2] ++ numsOf 5 [e3] ++ numsOf 1 [(np : Int), (nt : Int), (nj : Int), (ns : Int)] ++ paintsOf P np ++ tracksOf way kn K nt ++ jointsOf J nj ++ shapesOf S ns

set_option maxHeartbeats 16000000 in
set_option maxRecDepth 100000 in
theorem wscene (g B : Nat) (l : List UInt8) (a1 a2 a3 a4 a5 a6 : Int) (sd : Nat) (r1 r2 r3 e1 e2 e3 : Int) (np nt nj ns : Nat) (P : Nat → Int) (way : Nat → Int) (kn : Nat → Nat) (K : Nat → Nat → Int) (J S : Nat → Int) (pa ta ja sa : Option Addr) (pc tc jc sc : Nat) (w : World) (hw : WP g B l w) (hl : l.length ≤ 10000000) (hl0 : l.length ≤ 1000) (hsd : sd < 18446744073709551616) (hnp : np ≤ 200) (hnt : nt ≤ 200) (hnj : nj ≤ 200) (hns : ns ≤ 200) (hkn : ∀ i, i < nt → kn i ≤ 200) (hP : ∀ W, Aft g B w W → Nums 5 W pa np P) (hT : TrkAll g B w ta nt way kn K) (hJ : ∀ W, Aft g B w W → Nums 4 W ja nj J) (hX : ∀ W, Aft g B w W → Nums 13 W sa ns S) : Calls Tryz.prog 17 #[.agg #[.pointer (some ⟨g, 0, none⟩)], .agg #[.int .i64 a1, .int .i64 a2, .int .i64 a3, .int .i64 a4, .int .i64 a5, .int .i64 a6, .int .u64 (sd : Int), .int .i64 r1, .int .i64 r2, .int .i64 r3, .int .i64 e1, .int .i64 e2, .int .i64 e3, .slice pa np pc, .slice ta nt tc, .slice ja nj jc, .slice sa ns sc]] w fun e' w' => e' = .returned (.tuple #[]) ∧ WP g B (l ++ sceneB a1 a2 a3 a4 a5 a6 sd r1 r2 r3 e1 e2 e3 np nt nj ns P way kn K J S) w' ∧ Aft g B w w' := by
  have HPw := Lib.hid hw
  obtain ⟨hB, hg⟩ := hw.size
  clear hw
  have HSD := Lib.hid hsd
  have HKN := Lib.hid hkn
  have HPP := Lib.hid hP
  have HTT := Lib.hid hT
  have HJJ := Lib.hid hJ
  have HXX := Lib.hid hX
  clear hsd hkn hP hT hJ hX
  have kc := fun (w : World) (C : Array Value) (n c : Nat) => Lib.run_convert_bytes_const (P := Tryz.prog) w 35 5 C n c Tryz.underlying35 Tryz.underlying5
  go_enter Tryz.func17, Tryz.ntmps17
  go_upto_region 1 with fail
  have hR := Au.rows2 w (.cells #[.pointer (some ⟨g, 0, none⟩)] 71) (.cells #[.int .i64 a1, .int .i64 a2, .int .i64 a3, .int .i64 a4, .int .i64 a5, .int .i64 a6, .int .u64 (sd : Int), .int .i64 r1, .int .i64 r2, .int .i64 r3, .int .i64 e1, .int .i64 e2, .int .i64 e3, .slice pa np pc, .slice ta nt tc, .slice ja nj jc, .slice sa ns sc] 51)
  have HUx := Ve.below_n2 w (.cells #[.pointer (some ⟨g, 0, none⟩)] 71) (.cells #[.int .i64 a1, .int .i64 a2, .int .i64 a3, .int .i64 a4, .int .i64 a5, .int .i64 a6, .int .u64 (sd : Int), .int .i64 r1, .int .i64 r2, .int .i64 r3, .int .i64 e1, .int .i64 e2, .int .i64 e3, .slice pa np pc, .slice ta nt tc, .slice ja nj jc, .slice sa ns sc] 51)
  obtain ⟨y0, hy0⟩ : ∃ y0, (w.alloc (.cells #[.pointer (some ⟨g, 0, none⟩)] 71)).alloc (.cells #[.int .i64 a1, .int .i64 a2, .int .i64 a3, .int .i64 a4, .int .i64 a5, .int .i64 a6, .int .u64 (sd : Int), .int .i64 r1, .int .i64 r2, .int .i64 r3, .int .i64 e1, .int .i64 e2, .int .i64 e3, .slice pa np pc, .slice ta nt tc, .slice ja nj jc, .slice sa ns sc] 51) = y0 := ⟨_, rfl⟩
  rw [hy0] at hR HUx ⊢
  clear hy0
  have HP0 := Lib.hid (HPw.out.new HUx)
  have hz0 := HUx.size
  have HU0 := Lib.hid (Aft.of (g := g) (base := B) HUx)
  clear HUx
  obtain ⟨hr0_0, hr0_1⟩ := hR
  go_wp2_with fail
  clear kc
  have hb1 := Ve.below_n1 y0 (.cells #[.int .u8 90, .int .u8 79, .int .u8 69, .int .u8 49] 5 (4, 5))
  have hN := heap_alloc_last y0 (.cells #[.int .u8 90, .int .u8 79, .int .u8 69, .int .u8 49] 5 (4, 5))
  have hW1 := HP0.out.use.push (.cells #[.int .u8 90, .int .u8 79, .int .u8 69, .int .u8 49] 5 (4, 5))
  obtain ⟨y1, hy1⟩ : ∃ y, y0.alloc (.cells #[.int .u8 90, .int .u8 79, .int .u8 69, .int .u8 49] 5 (4, 5)) = y := ⟨_, rfl⟩
  rw [hy1] at hb1 hN hW1 ⊢
  clear hy1
  obtain ⟨mb, hmb⟩ : ∃ mb, mb = y0.heap.size := ⟨_, rfl⟩
  obtain ⟨S1, hS1⟩ : ∃ S1 : Nat → Prop, S1 = fun k => WS g B y0 k ∨ k = mb := ⟨_, rfl⟩
  rw [← hmb] at hW1 hN ⊢
  rw [← hS1] at hW1
  have s0 : S1 w.heap.size := by rw [hS1]; exact .inl ⟨lt_heap hr0_0, by omega, .inr ⟨_, _, _, hr0_0, by decide⟩⟩
  have s1 : S1 (w.heap.size + 1) := by rw [hS1]; exact .inl ⟨lt_heap hr0_1, by omega, .inr ⟨_, _, _, hr0_1, by decide⟩⟩
  have sm : S1 mb := by rw [hS1]; exact .inr rfl
  have HSI := Lib.hid (show ∀ k, WS g B y0 k → S1 k from fun k hk => by rw [hS1]; exact .inl hk)
  have HB1 := Lib.hid hb1
  have HW1 := Lib.hid hW1
  have hr1_0 := (hb1.block _ (lt_heap hr0_0)).trans hr0_0
  have hr1_1 := (hb1.block _ (lt_heap hr0_1)).trans hr0_1
  have hgy0 : g < y0.heap.size := by omega
  have hl1_0 := lt_heap hr0_0
  have hl1_1 := lt_heap hr0_1
  have hz1 := hb1.size
  clear hS1 hb1 hW1 hr0_0 hr0_1 HP0 hmb
  go_loopw [17] (fun i wr => ∃ k : Nat, k ≤ 4 ∧ i = .int .i64 k ∧ wr.heap[w.heap.size]? = some (.cells #[.pointer (some ⟨g, 0, none⟩)] 71 (0, 0)) ∧ wr.heap[w.heap.size + 1]? = some (.cells #[.int .i64 a1, .int .i64 a2, .int .i64 a3, .int .i64 a4, .int .i64 a5, .int .i64 a6, .int .u64 (sd : Int), .int .i64 r1, .int .i64 r2, .int .i64 r3, .int .i64 e1, .int .i64 e2, .int .i64 e3, .slice pa np pc, .slice ta nt tc, .slice ja nj jc, .slice sa ns sc] 51 (0, 0)) ∧ wr.heap[mb]? = some (.cells #[.int .u8 90, .int .u8 79, .int .u8 69, .int .u8 49] 5 (4, 5)) ∧ Hid (WAt g S1 (l ++ mgL k) wr) ∧ Hid (Aw S1 y1 wr)) (fun i _ => 4 - (intOf i).toNat)
  case atStart => exact ⟨0, by omega, rfl, hr1_0, hr1_1, hN, Lib.hid (by rw [mgL, List.append_nil]; exact HW1.out), Lib.hid (Aw.refl _ _)⟩
  case round =>
    clear hr1_0 hr1_1 hN HW1
    obtain ⟨k, hk, rfl, q0, q1, qm, HI, HA⟩ := hrel
    by_cases hlt : k < 4
    · have hlt' : (k : Int) < 4 := by omega
      have hml := mgk_lt k
      obtain ⟨m, hm⟩ : ∃ m, m = mgk k := ⟨_, rfl⟩
      rw [← hm] at hml
      have HM := Lib.hid (show mgL (k + 1) = mgL k ++ bytesOf (u64 (m : Int)) 1 by rw [hm]; rfl)
      have ck : wr.cell? ⟨mb, k, none⟩ = some (.int .u8 (m : Int)) := by
        rw [cell_of_row _ _ k _ _ _ qm, hm]
        rcases (show k = 0 ∨ k = 1 ∨ k = 2 ∨ k = 3 by omega) with rfl | rfl | rfl | rfl <;> rfl
      have c0 := cell_of_row _ _ 0 _ _ _ q0
      simp at c0
      clear hm
      go_wp2_with fail
      clear ck c0
      have hlm := mgL_length k
      refine (byte_any g (fun k => S1 k ∨ k = wr.heap.size) _ _ 1 (m : Int) _ (HI.out.push _) (Ints.one _ _) (by rw [List.length_append, hlm]; omega)).mono ?_
      rintro e w1 ⟨rfl, hw1, ha1⟩
      have hA2 := (Aw.of (S := S1) (Ve.below_n1 wr (.cells #[.int .i64 (m : Int)] 3))).trans (ha1.weak fun k hk => .inl hk)
      have p0 := (hA2.block _ s0 (lt_of_heap q0)).trans q0
      have p1 := (hA2.block _ s1 (lt_of_heap q1)).trans q1
      have pm := (hA2.block _ sm (lt_of_heap qm)).trans qm
      have HI2 := Lib.hid (show WAt g S1 (l ++ mgL (k + 1)) w1 by rw [HM.out, ← List.append_assoc]; exact hw1.weak fun k hk => .inl hk)
      have HA2 := Lib.hid (HA.out.trans hA2)
      clear hw1 ha1 q0 q1 qm hA2
      go_wp2_with fail
      go_roundw
      case rel => exact ⟨k + 1, by omega, by go_num, p0, p1, pm, HI2, HA2⟩
      case measure => simp [intOf]; omega
    · obtain rfl : k = 4 := by omega
      rename World => y2
      have ha := HA.out
      have HP2 := Lib.hid (WP.back hB hgy0 (HI.out.weak HSI.out))
      have hU2 := HU0.out.trans (aft_of_aw ((Aw.of HB1.out).trans (HA.out.weak HSI.out)))
      have HU2 := Lib.hid hU2
      have hz2 := hU2.size
      have hr2_0 := q0
      have hr2_1 := q1
      clear ha hU2 q0 q1 qm HI HA HSI HB1 HU0 s0 s1 sm
      have c0_0 := cell_of_row _ _ 0 _ _ _ hr2_0
      have c1_0 := cell_of_row _ _ 0 _ _ _ hr2_1
      have c1_1 := cell_of_row _ _ 1 _ _ _ hr2_1
      have c1_2 := cell_of_row _ _ 2 _ _ _ hr2_1
      have c1_3 := cell_of_row _ _ 3 _ _ _ hr2_1
      have c1_4 := cell_of_row _ _ 4 _ _ _ hr2_1
      have c1_5 := cell_of_row _ _ 5 _ _ _ hr2_1
      have c1_6 := cell_of_row _ _ 6 _ _ _ hr2_1
      have c1_7 := cell_of_row _ _ 7 _ _ _ hr2_1
      have c1_8 := cell_of_row _ _ 8 _ _ _ hr2_1
      have c1_9 := cell_of_row _ _ 9 _ _ _ hr2_1
      have c1_10 := cell_of_row _ _ 10 _ _ _ hr2_1
      have c1_11 := cell_of_row _ _ 11 _ _ _ hr2_1
      have c1_12 := cell_of_row _ _ 12 _ _ _ hr2_1
      have c1_13 := cell_of_row _ _ 13 _ _ _ hr2_1
      have c1_14 := cell_of_row _ _ 14 _ _ _ hr2_1
      have c1_15 := cell_of_row _ _ 15 _ _ _ hr2_1
      have c1_16 := cell_of_row _ _ 16 _ _ _ hr2_1
      simp at c0_0 c1_0 c1_1 c1_2 c1_3 c1_4 c1_5 c1_6 c1_7 c1_8 c1_9 c1_10 c1_11 c1_12 c1_13 c1_14 c1_15 c1_16
      go_wp2_with fail
      refine (wheader g B (l ++ mgL 4) a1 a2 a3 a4 a5 a6 sd r1 r2 r3 _ HP2.out (by first | omega | (simp only [List.length_append, numsOf_length, bytesOf_length, mgL_length, paintsOf_length, jointsOf_length, List.length_cons, List.length_nil]; omega)) HSD.out).mono ?_
      rintro e y3 ⟨rfl, hp3, hb3⟩
      have HP3 := Lib.hid hp3
      have hz3 := hb3.size
      clear c0_0 c1_0 c1_1 c1_2 c1_3 c1_4 c1_5 c1_6 c1_7 c1_8 c1_9 c1_10 c1_11 c1_12 c1_13 c1_14 c1_15 c1_16
      have hr3_0 := hb3.other _ _ _ _ (by omega) (by decide) hr2_0
      have hr3_1 := hb3.other _ _ _ _ (by omega) (by decide) hr2_1
      have HU3 := Lib.hid (HU2.out.trans hb3)
      clear hr2_0 hr2_1 HU2
      have c0_0 := cell_of_row _ _ 0 _ _ _ hr3_0
      have c1_0 := cell_of_row _ _ 0 _ _ _ hr3_1
      have c1_1 := cell_of_row _ _ 1 _ _ _ hr3_1
      have c1_2 := cell_of_row _ _ 2 _ _ _ hr3_1
      have c1_3 := cell_of_row _ _ 3 _ _ _ hr3_1
      have c1_4 := cell_of_row _ _ 4 _ _ _ hr3_1
      have c1_5 := cell_of_row _ _ 5 _ _ _ hr3_1
      have c1_6 := cell_of_row _ _ 6 _ _ _ hr3_1
      have c1_7 := cell_of_row _ _ 7 _ _ _ hr3_1
      have c1_8 := cell_of_row _ _ 8 _ _ _ hr3_1
      have c1_9 := cell_of_row _ _ 9 _ _ _ hr3_1
      have c1_10 := cell_of_row _ _ 10 _ _ _ hr3_1
      have c1_11 := cell_of_row _ _ 11 _ _ _ hr3_1
      have c1_12 := cell_of_row _ _ 12 _ _ _ hr3_1
      have c1_13 := cell_of_row _ _ 13 _ _ _ hr3_1
      have c1_14 := cell_of_row _ _ 14 _ _ _ hr3_1
      have c1_15 := cell_of_row _ _ 15 _ _ _ hr3_1
      have c1_16 := cell_of_row _ _ 16 _ _ _ hr3_1
      simp at c0_0 c1_0 c1_1 c1_2 c1_3 c1_4 c1_5 c1_6 c1_7 c1_8 c1_9 c1_10 c1_11 c1_12 c1_13 c1_14 c1_15 c1_16
      go_wp2_with fail
      refine (wlens g B (l ++ mgL 4 ++ numsOf 2 [a1, a2, a3, a4, a5] ++ numsOf 5 [a6] ++ bytesOf sd 8 ++ numsOf 5 [r1, r2, r3]) e1 e2 e3 _ HP3.out (by first | omega | (simp only [List.length_append, numsOf_length, bytesOf_length, mgL_length, paintsOf_length, jointsOf_length, List.length_cons, List.length_nil]; omega))).mono ?_
      rintro e y4 ⟨rfl, hp4, hb4⟩
      have HP4 := Lib.hid hp4
      have hz4 := hb4.size
      clear c0_0 c1_0 c1_1 c1_2 c1_3 c1_4 c1_5 c1_6 c1_7 c1_8 c1_9 c1_10 c1_11 c1_12 c1_13 c1_14 c1_15 c1_16
      have hr4_0 := hb4.other _ _ _ _ (by omega) (by decide) hr3_0
      have hr4_1 := hb4.other _ _ _ _ (by omega) (by decide) hr3_1
      have HU4 := Lib.hid (HU3.out.trans hb4)
      clear hr3_0 hr3_1 HU3
      have c0_0 := cell_of_row _ _ 0 _ _ _ hr4_0
      have c1_0 := cell_of_row _ _ 0 _ _ _ hr4_1
      have c1_1 := cell_of_row _ _ 1 _ _ _ hr4_1
      have c1_2 := cell_of_row _ _ 2 _ _ _ hr4_1
      have c1_3 := cell_of_row _ _ 3 _ _ _ hr4_1
      have c1_4 := cell_of_row _ _ 4 _ _ _ hr4_1
      have c1_5 := cell_of_row _ _ 5 _ _ _ hr4_1
      have c1_6 := cell_of_row _ _ 6 _ _ _ hr4_1
      have c1_7 := cell_of_row _ _ 7 _ _ _ hr4_1
      have c1_8 := cell_of_row _ _ 8 _ _ _ hr4_1
      have c1_9 := cell_of_row _ _ 9 _ _ _ hr4_1
      have c1_10 := cell_of_row _ _ 10 _ _ _ hr4_1
      have c1_11 := cell_of_row _ _ 11 _ _ _ hr4_1
      have c1_12 := cell_of_row _ _ 12 _ _ _ hr4_1
      have c1_13 := cell_of_row _ _ 13 _ _ _ hr4_1
      have c1_14 := cell_of_row _ _ 14 _ _ _ hr4_1
      have c1_15 := cell_of_row _ _ 15 _ _ _ hr4_1
      have c1_16 := cell_of_row _ _ 16 _ _ _ hr4_1
      simp at c0_0 c1_0 c1_1 c1_2 c1_3 c1_4 c1_5 c1_6 c1_7 c1_8 c1_9 c1_10 c1_11 c1_12 c1_13 c1_14 c1_15 c1_16
      go_wp2_with fail
      clear c0_0 c1_0 c1_1 c1_2 c1_3 c1_4 c1_5 c1_6 c1_7 c1_8 c1_9 c1_10 c1_11 c1_12 c1_13 c1_14 c1_15 c1_16
      have hb5 := Ve.below_n1 y4 (.cells #[.int .i64 ((np : Int)), .int .i64 ((nt : Int)), .int .i64 ((nj : Int)), .int .i64 ((ns : Int))] 3)
      have hp5 := HP4.out.new hb5
      have hb5 := Aft.of (g := g) (base := B) hb5
      have hN := heap_alloc_last y4 (.cells #[.int .i64 ((np : Int)), .int .i64 ((nt : Int)), .int .i64 ((nj : Int)), .int .i64 ((ns : Int))] 3)
      obtain ⟨y5, hy5⟩ : ∃ y, y4.alloc (.cells #[.int .i64 ((np : Int)), .int .i64 ((nt : Int)), .int .i64 ((nj : Int)), .int .i64 ((ns : Int))] 3) = y := ⟨_, rfl⟩
      have hs5 : y5.heap.size = y4.heap.size + 1 := by rw [← hy5]; simp
      rw [hy5] at hb5 hN hp5 ⊢
      clear hy5
      have HP5 := Lib.hid hp5
      have hz5 := hb5.size
      have hl5_0 := lt_heap hr4_0
      have hl5_1 := lt_heap hr4_1
      have hr5_0 := hb5.other _ _ _ _ (by omega) (by decide) hr4_0
      have hr5_1 := hb5.other _ _ _ _ (by omega) (by decide) hr4_1
      have HU5 := Lib.hid (HU4.out.trans hb5)
      clear hr4_0 hr4_1 HU4
      have hr5_2 := hN
      clear hN
      refine (wbyte g B (l ++ mgL 4 ++ numsOf 2 [a1, a2, a3, a4, a5] ++ numsOf 5 [a6] ++ bytesOf sd 8 ++ numsOf 5 [r1, r2, r3] ++ numsOf 2 [e1, e2] ++ numsOf 5 [e3]) [(np : Int), (nt : Int), (nj : Int), (ns : Int)] (y4.heap.size) 4 _ _ _ HP5.out hr5_2 rfl (by decide) (by omega) (by simp) (by first | omega | (simp only [List.length_append, numsOf_length, bytesOf_length, mgL_length, paintsOf_length, jointsOf_length, List.length_cons, List.length_nil]; omega))).mono ?_
      rintro e y6 ⟨rfl, hp6, hb6⟩
      have HP6 := Lib.hid hp6
      have hz6 := hb6.size
      have hr6_0 := hb6.other _ _ _ _ (by omega) (by decide) hr5_0
      have hr6_1 := hb6.other _ _ _ _ (by omega) (by decide) hr5_1
      have hr6_2 := hb6.other _ _ _ _ (by omega) (by decide) hr5_2
      have HU6 := Lib.hid (HU5.out.trans hb6)
      clear hr5_0 hr5_1 hr5_2 HU5
      obtain ⟨L0, hL0⟩ : ∃ L, L = l ++ mgL 4 ++ numsOf 2 [a1, a2, a3, a4, a5] ++ numsOf 5 [a6] ++ bytesOf sd 8 ++ numsOf 5 [r1, r2, r3] ++ numsOf 2 [e1, e2] ++ numsOf 5 [e3] ++ numsOf 1 [(np : Int), (nt : Int), (nj : Int), (ns : Int)] := ⟨_, rfl⟩
      have hl0 : L0.length ≤ 2000 := by rw [hL0]; simp only [List.length_append, numsOf_length, bytesOf_length, mgL_length, List.length_cons, List.length_nil]; omega
      rw [← hL0] at HP6
      have HLL0 := Lib.hid hL0
      clear hL0
      have c1_0 := cell_of_row _ _ 0 _ _ _ hr6_1
      have c1_1 := cell_of_row _ _ 1 _ _ _ hr6_1
      have c1_2 := cell_of_row _ _ 2 _ _ _ hr6_1
      have c1_3 := cell_of_row _ _ 3 _ _ _ hr6_1
      have c1_4 := cell_of_row _ _ 4 _ _ _ hr6_1
      have c1_5 := cell_of_row _ _ 5 _ _ _ hr6_1
      have c1_6 := cell_of_row _ _ 6 _ _ _ hr6_1
      have c1_7 := cell_of_row _ _ 7 _ _ _ hr6_1
      have c1_8 := cell_of_row _ _ 8 _ _ _ hr6_1
      have c1_9 := cell_of_row _ _ 9 _ _ _ hr6_1
      have c1_10 := cell_of_row _ _ 10 _ _ _ hr6_1
      have c1_11 := cell_of_row _ _ 11 _ _ _ hr6_1
      have c1_12 := cell_of_row _ _ 12 _ _ _ hr6_1
      have c1_13 := cell_of_row _ _ 13 _ _ _ hr6_1
      have c1_14 := cell_of_row _ _ 14 _ _ _ hr6_1
      have c1_15 := cell_of_row _ _ 15 _ _ _ hr6_1
      have c1_16 := cell_of_row _ _ 16 _ _ _ hr6_1
      simp at c1_0 c1_1 c1_2 c1_3 c1_4 c1_5 c1_6 c1_7 c1_8 c1_9 c1_10 c1_11 c1_12 c1_13 c1_14 c1_15 c1_16
      go_wp2_with fail
      clear c1_0 c1_1 c1_2 c1_3 c1_4 c1_5 c1_6 c1_7 c1_8 c1_9 c1_10 c1_11 c1_12 c1_13 c1_14 c1_15 c1_16
      go_loopw [55] (fun i wr => ∃ k : Nat, k ≤ np ∧ i = .int .i64 k ∧ wr.heap[w.heap.size]? = some (.cells #[.pointer (some ⟨g, 0, none⟩)] 71 (0, 0)) ∧ wr.heap[w.heap.size + 1]? = some (.cells #[.int .i64 a1, .int .i64 a2, .int .i64 a3, .int .i64 a4, .int .i64 a5, .int .i64 a6, .int .u64 (sd : Int), .int .i64 r1, .int .i64 r2, .int .i64 r3, .int .i64 e1, .int .i64 e2, .int .i64 e3, .slice pa np pc, .slice ta nt tc, .slice ja nj jc, .slice sa ns sc] 51 (0, 0)) ∧ Hid (WP g B (L0 ++ paintsOf P k) wr) ∧ Hid (Aft g B w wr)) (fun i _ => np - (intOf i).toNat)
      case atStart => exact ⟨0, by omega, rfl, hr6_0, hr6_1, Lib.hid (by rw [paintsOf, List.append_nil]; exact HP6.out), HU6⟩
      case round =>
        clear hr6_0 hr6_1 HP6 HU6
        obtain ⟨k, hk, rfl, hr16_0, hr16_1, HP16, HU16⟩ := hrel
        obtain ⟨y16, rfl⟩ : ∃ y : World, y = wr := ⟨_, rfl⟩
        have hz16 := HU16.out.size
        by_cases hlt : k < np
        · have hlt' : (k : Int) < np := by omega
          obtain ⟨eb, eoff, rfl, heb, k0, k1, k2, k3, k4⟩ := nums5 (HPP.out _ HU16.out) hlt
          obtain ⟨x0, hx0⟩ : ∃ v, v = P (k * 5) := ⟨_, rfl⟩
          rw [← hx0] at k0
          obtain ⟨x1, hx1⟩ : ∃ v, v = P (k * 5 + 1) := ⟨_, rfl⟩
          rw [← hx1] at k1
          obtain ⟨x2, hx2⟩ : ∃ v, v = P (k * 5 + 2) := ⟨_, rfl⟩
          rw [← hx2] at k2
          obtain ⟨x3, hx3⟩ : ∃ v, v = P (k * 5 + 3) := ⟨_, rfl⟩
          rw [← hx3] at k3
          obtain ⟨x4, hx4⟩ : ∃ v, v = P (k * 5 + 4) := ⟨_, rfl⟩
          rw [← hx4] at k4
          have HKK := Lib.hid (show paintsOf P (k + 1) = paintsOf P k ++ (numsOf 1 [x0] ++ (numsOf 5 [x1, x2, x3] ++ numsOf 5 [x4])) by simp only [hx0, hx1, hx2, hx3, hx4]; rfl)
          clear hx0 hx1 hx2 hx3 hx4
          have hlk1 := (show (paintsOf P k).length ≤ 200 * 4002 from (by rw [paintsOf_length]; omega))
          have hlL1 : (L0 ++ paintsOf P k).length ≤ 802400 := by rw [List.length_append]; omega
          go_upto_region 12 with fail
          have hl16_0 := lt_heap hr16_0
          have hl16_1 := lt_heap hr16_1
          have hb17 := Ve.below_n1 y16 (.cells #[.int .i64 x0, .int .i64 x1, .int .i64 x2, .int .i64 x3, .int .i64 x4] 78)
          have hp17 := HP16.out.new hb17
          have hb17 := Aft.of (g := g) (base := B) hb17
          have hN := heap_alloc_last y16 (.cells #[.int .i64 x0, .int .i64 x1, .int .i64 x2, .int .i64 x3, .int .i64 x4] 78)
          obtain ⟨y17, hy17⟩ : ∃ y, y16.alloc (.cells #[.int .i64 x0, .int .i64 x1, .int .i64 x2, .int .i64 x3, .int .i64 x4] 78) = y := ⟨_, rfl⟩
          have hs17 : y17.heap.size = y16.heap.size + 1 := by rw [← hy17]; simp
          rw [hy17] at hb17 hN hp17 ⊢
          clear hy17
          have HP17 := Lib.hid hp17
          have hz17 := hb17.size
          have hl17_0 := lt_heap hr16_0
          have hl17_1 := lt_heap hr16_1
          have hr17_0 := hb17.other _ _ _ _ (by omega) (by decide) hr16_0
          have hr17_1 := hb17.other _ _ _ _ (by omega) (by decide) hr16_1
          have HU17 := Lib.hid (HU16.out.trans hb17)
          clear hr16_0 hr16_1 HU16
          have hr17_2 := hN
          clear hN
          replace hs17 : y16.heap.size < y17.heap.size := by omega
          have HWL0 := Lib.hid hr17_0
          have HWZ0 := Lib.hid (show (Tryz.prog.info? 71).map (·.size) = some (#[.pointer (some ⟨g, 0, none⟩)] : Array Value).size by kernel_rfl)
          have HWL1 := Lib.hid hr17_2
          have HWZ1 := Lib.hid (show (Tryz.prog.info? 78).map (·.size) = some (#[.int .i64 x0, .int .i64 x1, .int .i64 x2, .int .i64 x3, .int .i64 x4] : Array Value).size by kernel_rfl)
          go_wp2_with (first | (with_reducible refine wpList_load_row rfl 71 (.tmp 2) rfl (w.heap.size) rfl 71 #[.pointer (some ⟨g, 0, none⟩)] (0, 0) _ HWL0.out Tryz.underlying71 rfl HWZ0.out ?_) | (with_reducible refine wpList_load_row rfl 78 (.tmp 7) rfl (y16.heap.size) rfl 78 #[.int .i64 x0, .int .i64 x1, .int .i64 x2, .int .i64 x3, .int .i64 x4] (0, 0) _ HWL1.out Tryz.underlying78 rfl HWZ1.out ?_))
          clear HWL0 HWZ0 HWL1 HWZ1
          refine (wpaint g B (L0 ++ paintsOf P k) x0 x1 x2 x3 x4 _ HP17.out (by omega)).mono ?_
          rintro e y18 ⟨rfl, hp18, hb18⟩
          have HP18 := Lib.hid hp18
          have hz18 := hb18.size
          have hr18_0 := hb18.other _ _ _ _ (by omega) (by decide) hr17_0
          have hr18_1 := hb18.other _ _ _ _ (by omega) (by decide) hr17_1
          have hr18_2 := hb18.other _ _ _ _ (by omega) (by decide) hr17_2
          have HU18 := Lib.hid (HU17.out.trans hb18)
          clear hr17_0 hr17_1 hr17_2 HU17
          have HQ := Lib.hid (show WP g B (L0 ++ paintsOf P (k + 1)) y18 by rw [HKK.out]; simpa only [List.append_assoc] using HP18.out)
          go_wp2_with fail
          go_roundw
          case rel => exact ⟨k + 1, by omega, by go_num, hr18_0, hr18_1, HQ, HU18⟩
          case measure => simp [intOf]; omega
        · have hkk : np = k := by omega
          subst hkk
          obtain ⟨L1, hL1⟩ : ∃ L, L = L0 ++ paintsOf P np := ⟨_, rfl⟩
          have hl1 : L1.length ≤ 802400 := by rw [hL1]; rw [List.length_append]; have : (paintsOf P np).length ≤ 200 * 4002 := (by rw [paintsOf_length]; omega); omega
          rw [← hL1] at HP16
          have HLL1 := Lib.hid hL1
          clear hL1
          have c1_0 := cell_of_row _ _ 0 _ _ _ hr16_1
          have c1_1 := cell_of_row _ _ 1 _ _ _ hr16_1
          have c1_2 := cell_of_row _ _ 2 _ _ _ hr16_1
          have c1_3 := cell_of_row _ _ 3 _ _ _ hr16_1
          have c1_4 := cell_of_row _ _ 4 _ _ _ hr16_1
          have c1_5 := cell_of_row _ _ 5 _ _ _ hr16_1
          have c1_6 := cell_of_row _ _ 6 _ _ _ hr16_1
          have c1_7 := cell_of_row _ _ 7 _ _ _ hr16_1
          have c1_8 := cell_of_row _ _ 8 _ _ _ hr16_1
          have c1_9 := cell_of_row _ _ 9 _ _ _ hr16_1
          have c1_10 := cell_of_row _ _ 10 _ _ _ hr16_1
          have c1_11 := cell_of_row _ _ 11 _ _ _ hr16_1
          have c1_12 := cell_of_row _ _ 12 _ _ _ hr16_1
          have c1_13 := cell_of_row _ _ 13 _ _ _ hr16_1
          have c1_14 := cell_of_row _ _ 14 _ _ _ hr16_1
          have c1_15 := cell_of_row _ _ 15 _ _ _ hr16_1
          have c1_16 := cell_of_row _ _ 16 _ _ _ hr16_1
          simp at c1_0 c1_1 c1_2 c1_3 c1_4 c1_5 c1_6 c1_7 c1_8 c1_9 c1_10 c1_11 c1_12 c1_13 c1_14 c1_15 c1_16
          go_wp2_with fail
          clear c1_0 c1_1 c1_2 c1_3 c1_4 c1_5 c1_6 c1_7 c1_8 c1_9 c1_10 c1_11 c1_12 c1_13 c1_14 c1_15 c1_16
          go_loopw [66] (fun i wr => ∃ k : Nat, k ≤ nt ∧ i = .int .i64 k ∧ wr.heap[w.heap.size]? = some (.cells #[.pointer (some ⟨g, 0, none⟩)] 71 (0, 0)) ∧ wr.heap[w.heap.size + 1]? = some (.cells #[.int .i64 a1, .int .i64 a2, .int .i64 a3, .int .i64 a4, .int .i64 a5, .int .i64 a6, .int .u64 (sd : Int), .int .i64 r1, .int .i64 r2, .int .i64 r3, .int .i64 e1, .int .i64 e2, .int .i64 e3, .slice pa np pc, .slice ta nt tc, .slice ja nj jc, .slice sa ns sc] 51 (0, 0)) ∧ Hid (WP g B (L1 ++ tracksOf way kn K k) wr) ∧ Hid (Aft g B w wr)) (fun i _ => nt - (intOf i).toNat)
          case atStart => exact ⟨0, by omega, rfl, hr16_0, hr16_1, Lib.hid (by rw [tracksOf, List.append_nil]; exact HP16.out), HU16⟩
          case round =>
            clear hr16_0 hr16_1 HP16 HU16
            obtain ⟨k, hk, rfl, hr26_0, hr26_1, HP26, HU26⟩ := hrel
            obtain ⟨y26, rfl⟩ : ∃ y : World, y = wr := ⟨_, rfl⟩
            have hz26 := HU26.out.size
            by_cases hlt : k < nt
            · have hlt' : (k : Int) < nt := by omega
              obtain ⟨eb, eoff, ka, kc, rfl, hka⟩ := HTT.out.at hlt
              obtain ⟨k0, k1, -⟩ := hka _ HU26.out
              have HKA := Lib.hid hka
              have hknk := HKN.out k hlt
              clear hka
              obtain ⟨x0, hx0⟩ : ∃ v, v = way k := ⟨_, rfl⟩
              obtain ⟨x1, hx1⟩ : ∃ v, v = kn k := ⟨_, rfl⟩
              rw [← hx0] at k0
              rw [← hx1] at k1 hknk
              have HX1 := Lib.hid hx1
              have HKK := Lib.hid (show tracksOf way kn K (k + 1) = tracksOf way kn K k ++ (numsOf 1 [x0, (x1 : Int)] ++ keysOf (K k) x1) by simp only [hx0, hx1]; rfl)
              clear hx0 hx1
              have hlk2 := (show (tracksOf way kn K k).length ≤ 200 * 4002 from (by have h0 := HKN.out; have h1 := tracksOf_length way kn K nt h0 _ (show _ ≤ nt by first | exact hk | exact Nat.le_refl _); refine Nat.le_trans h1 ?_; exact Nat.mul_le_mul_right 4002 (by omega)))
              have hlL2 : (L1 ++ tracksOf way kn K k).length ≤ 1602800 := by rw [List.length_append]; omega
              go_upto_region 17 with fail
              have hl26_0 := lt_heap hr26_0
              have hl26_1 := lt_heap hr26_1
              have hb27 := Ve.below_n1 y26 (.cells #[.int .i64 x0, .slice ka x1 kc] 81)
              have hp27 := HP26.out.new hb27
              have hb27 := Aft.of (g := g) (base := B) hb27
              have hN := heap_alloc_last y26 (.cells #[.int .i64 x0, .slice ka x1 kc] 81)
              obtain ⟨y27, hy27⟩ : ∃ y, y26.alloc (.cells #[.int .i64 x0, .slice ka x1 kc] 81) = y := ⟨_, rfl⟩
              have hs27 : y27.heap.size = y26.heap.size + 1 := by rw [← hy27]; simp
              rw [hy27] at hb27 hN hp27 ⊢
              clear hy27
              have HP27 := Lib.hid hp27
              have hz27 := hb27.size
              have hl27_0 := lt_heap hr26_0
              have hl27_1 := lt_heap hr26_1
              have hr27_0 := hb27.other _ _ _ _ (by omega) (by decide) hr26_0
              have hr27_1 := hb27.other _ _ _ _ (by omega) (by decide) hr26_1
              have HU27 := Lib.hid (HU26.out.trans hb27)
              clear hr26_0 hr26_1 HU26
              have hr27_2 := hN
              clear hN
              replace hs27 : y26.heap.size < y27.heap.size := by omega
              have HWL0 := Lib.hid hr27_0
              have HWZ0 := Lib.hid (show (Tryz.prog.info? 71).map (·.size) = some (#[.pointer (some ⟨g, 0, none⟩)] : Array Value).size by kernel_rfl)
              have HWL1 := Lib.hid hr27_2
              have HWZ1 := Lib.hid (show (Tryz.prog.info? 81).map (·.size) = some (#[.int .i64 x0, .slice ka x1 kc] : Array Value).size by kernel_rfl)
              go_wp2_with (first | (with_reducible refine wpList_load_row rfl 71 (.tmp 2) rfl (w.heap.size) rfl 71 #[.pointer (some ⟨g, 0, none⟩)] (0, 0) _ HWL0.out Tryz.underlying71 rfl HWZ0.out ?_) | (with_reducible refine wpList_load_row rfl 81 (.tmp 9) rfl (y26.heap.size) rfl 81 #[.int .i64 x0, .slice ka x1 kc] (0, 0) _ HWL1.out Tryz.underlying81 rfl HWZ1.out ?_))
              clear HWL0 HWZ0 HWL1 HWZ1
              refine (wtrack g B (L1 ++ tracksOf way kn K k) x0 ka x1 kc (K k) _ HP27.out (by omega) (by omega) (fun W h => by rw [HX1.out]; exact (HKA.out W (HU27.out.trans h)).2.2)).mono ?_
              rintro e y28 ⟨rfl, hp28, hb28⟩
              have HP28 := Lib.hid hp28
              have hz28 := hb28.size
              have hr28_0 := hb28.other _ _ _ _ (by omega) (by decide) hr27_0
              have hr28_1 := hb28.other _ _ _ _ (by omega) (by decide) hr27_1
              have hr28_2 := hb28.other _ _ _ _ (by omega) (by decide) hr27_2
              have HU28 := Lib.hid (HU27.out.trans hb28)
              clear hr27_0 hr27_1 hr27_2 HU27
              have HQ := Lib.hid (show WP g B (L1 ++ tracksOf way kn K (k + 1)) y28 by rw [HKK.out]; simpa only [List.append_assoc] using HP28.out)
              go_wp2_with fail
              go_roundw
              case rel => exact ⟨k + 1, by omega, by go_num, hr28_0, hr28_1, HQ, HU28⟩
              case measure => simp [intOf]; omega
            · have hkk : nt = k := by omega
              subst hkk
              obtain ⟨L2, hL2⟩ : ∃ L, L = L1 ++ tracksOf way kn K nt := ⟨_, rfl⟩
              have hl2 : L2.length ≤ 1602800 := by rw [hL2]; rw [List.length_append]; have : (tracksOf way kn K nt).length ≤ 200 * 4002 := (by have h0 := HKN.out; have h1 := tracksOf_length way kn K nt h0 _ (show _ ≤ nt by first | exact hk | exact Nat.le_refl _); refine Nat.le_trans h1 ?_; exact Nat.mul_le_mul_right 4002 (by omega)); omega
              rw [← hL2] at HP26
              have HLL2 := Lib.hid hL2
              clear hL2
              have c1_0 := cell_of_row _ _ 0 _ _ _ hr26_1
              have c1_1 := cell_of_row _ _ 1 _ _ _ hr26_1
              have c1_2 := cell_of_row _ _ 2 _ _ _ hr26_1
              have c1_3 := cell_of_row _ _ 3 _ _ _ hr26_1
              have c1_4 := cell_of_row _ _ 4 _ _ _ hr26_1
              have c1_5 := cell_of_row _ _ 5 _ _ _ hr26_1
              have c1_6 := cell_of_row _ _ 6 _ _ _ hr26_1
              have c1_7 := cell_of_row _ _ 7 _ _ _ hr26_1
              have c1_8 := cell_of_row _ _ 8 _ _ _ hr26_1
              have c1_9 := cell_of_row _ _ 9 _ _ _ hr26_1
              have c1_10 := cell_of_row _ _ 10 _ _ _ hr26_1
              have c1_11 := cell_of_row _ _ 11 _ _ _ hr26_1
              have c1_12 := cell_of_row _ _ 12 _ _ _ hr26_1
              have c1_13 := cell_of_row _ _ 13 _ _ _ hr26_1
              have c1_14 := cell_of_row _ _ 14 _ _ _ hr26_1
              have c1_15 := cell_of_row _ _ 15 _ _ _ hr26_1
              have c1_16 := cell_of_row _ _ 16 _ _ _ hr26_1
              simp at c1_0 c1_1 c1_2 c1_3 c1_4 c1_5 c1_6 c1_7 c1_8 c1_9 c1_10 c1_11 c1_12 c1_13 c1_14 c1_15 c1_16
              go_wp2_with fail
              clear c1_0 c1_1 c1_2 c1_3 c1_4 c1_5 c1_6 c1_7 c1_8 c1_9 c1_10 c1_11 c1_12 c1_13 c1_14 c1_15 c1_16
              go_loopw [77] (fun i wr => ∃ k : Nat, k ≤ nj ∧ i = .int .i64 k ∧ wr.heap[w.heap.size]? = some (.cells #[.pointer (some ⟨g, 0, none⟩)] 71 (0, 0)) ∧ wr.heap[w.heap.size + 1]? = some (.cells #[.int .i64 a1, .int .i64 a2, .int .i64 a3, .int .i64 a4, .int .i64 a5, .int .i64 a6, .int .u64 (sd : Int), .int .i64 r1, .int .i64 r2, .int .i64 r3, .int .i64 e1, .int .i64 e2, .int .i64 e3, .slice pa np pc, .slice ta nt tc, .slice ja nj jc, .slice sa ns sc] 51 (0, 0)) ∧ Hid (WP g B (L2 ++ jointsOf J k) wr) ∧ Hid (Aft g B w wr)) (fun i _ => nj - (intOf i).toNat)
              case atStart => exact ⟨0, by omega, rfl, hr26_0, hr26_1, Lib.hid (by rw [jointsOf, List.append_nil]; exact HP26.out), HU26⟩
              case round =>
                clear hr26_0 hr26_1 HP26 HU26
                obtain ⟨k, hk, rfl, hr36_0, hr36_1, HP36, HU36⟩ := hrel
                obtain ⟨y36, rfl⟩ : ∃ y : World, y = wr := ⟨_, rfl⟩
                have hz36 := HU36.out.size
                by_cases hlt : k < nj
                · have hlt' : (k : Int) < nj := by omega
                  obtain ⟨eb, eoff, rfl, heb, k0, k1, k2, k3⟩ := nums4 (HJJ.out _ HU36.out) hlt
                  obtain ⟨x0, hx0⟩ : ∃ v, v = J (k * 4) := ⟨_, rfl⟩
                  rw [← hx0] at k0
                  obtain ⟨x1, hx1⟩ : ∃ v, v = J (k * 4 + 1) := ⟨_, rfl⟩
                  rw [← hx1] at k1
                  obtain ⟨x2, hx2⟩ : ∃ v, v = J (k * 4 + 2) := ⟨_, rfl⟩
                  rw [← hx2] at k2
                  obtain ⟨x3, hx3⟩ : ∃ v, v = J (k * 4 + 3) := ⟨_, rfl⟩
                  rw [← hx3] at k3
                  have HKK := Lib.hid (show jointsOf J (k + 1) = jointsOf J k ++ (numsOf 2 [x0, x1, x2] ++ numsOf 5 [x3]) by simp only [hx0, hx1, hx2, hx3]; rfl)
                  clear hx0 hx1 hx2 hx3
                  have hlk3 := (show (jointsOf J k).length ≤ 200 * 4002 from (by rw [jointsOf_length]; omega))
                  have hlL3 : (L2 ++ jointsOf J k).length ≤ 2403200 := by rw [List.length_append]; omega
                  go_upto_region 22 with fail
                  have hl36_0 := lt_heap hr36_0
                  have hl36_1 := lt_heap hr36_1
                  have hb37 := Ve.below_n1 y36 (.cells #[.int .i64 x0, .int .i64 x1, .int .i64 x2, .int .i64 x3] 86)
                  have hp37 := HP36.out.new hb37
                  have hb37 := Aft.of (g := g) (base := B) hb37
                  have hN := heap_alloc_last y36 (.cells #[.int .i64 x0, .int .i64 x1, .int .i64 x2, .int .i64 x3] 86)
                  obtain ⟨y37, hy37⟩ : ∃ y, y36.alloc (.cells #[.int .i64 x0, .int .i64 x1, .int .i64 x2, .int .i64 x3] 86) = y := ⟨_, rfl⟩
                  have hs37 : y37.heap.size = y36.heap.size + 1 := by rw [← hy37]; simp
                  rw [hy37] at hb37 hN hp37 ⊢
                  clear hy37
                  have HP37 := Lib.hid hp37
                  have hz37 := hb37.size
                  have hl37_0 := lt_heap hr36_0
                  have hl37_1 := lt_heap hr36_1
                  have hr37_0 := hb37.other _ _ _ _ (by omega) (by decide) hr36_0
                  have hr37_1 := hb37.other _ _ _ _ (by omega) (by decide) hr36_1
                  have HU37 := Lib.hid (HU36.out.trans hb37)
                  clear hr36_0 hr36_1 HU36
                  have hr37_2 := hN
                  clear hN
                  replace hs37 : y36.heap.size < y37.heap.size := by omega
                  have HWL0 := Lib.hid hr37_0
                  have HWZ0 := Lib.hid (show (Tryz.prog.info? 71).map (·.size) = some (#[.pointer (some ⟨g, 0, none⟩)] : Array Value).size by kernel_rfl)
                  have HWL1 := Lib.hid hr37_2
                  have HWZ1 := Lib.hid (show (Tryz.prog.info? 86).map (·.size) = some (#[.int .i64 x0, .int .i64 x1, .int .i64 x2, .int .i64 x3] : Array Value).size by kernel_rfl)
                  go_wp2_with (first | (with_reducible refine wpList_load_row rfl 71 (.tmp 2) rfl (w.heap.size) rfl 71 #[.pointer (some ⟨g, 0, none⟩)] (0, 0) _ HWL0.out Tryz.underlying71 rfl HWZ0.out ?_) | (with_reducible refine wpList_load_row rfl 86 (.tmp 11) rfl (y36.heap.size) rfl 86 #[.int .i64 x0, .int .i64 x1, .int .i64 x2, .int .i64 x3] (0, 0) _ HWL1.out Tryz.underlying86 rfl HWZ1.out ?_))
                  clear HWL0 HWZ0 HWL1 HWZ1
                  refine (wjoint g B (L2 ++ jointsOf J k) x0 x1 x2 x3 _ HP37.out (by omega)).mono ?_
                  rintro e y38 ⟨rfl, hp38, hb38⟩
                  have HP38 := Lib.hid hp38
                  have hz38 := hb38.size
                  have hr38_0 := hb38.other _ _ _ _ (by omega) (by decide) hr37_0
                  have hr38_1 := hb38.other _ _ _ _ (by omega) (by decide) hr37_1
                  have hr38_2 := hb38.other _ _ _ _ (by omega) (by decide) hr37_2
                  have HU38 := Lib.hid (HU37.out.trans hb38)
                  clear hr37_0 hr37_1 hr37_2 HU37
                  have HQ := Lib.hid (show WP g B (L2 ++ jointsOf J (k + 1)) y38 by rw [HKK.out]; simpa only [List.append_assoc] using HP38.out)
                  go_wp2_with fail
                  go_roundw
                  case rel => exact ⟨k + 1, by omega, by go_num, hr38_0, hr38_1, HQ, HU38⟩
                  case measure => simp [intOf]; omega
                · have hkk : nj = k := by omega
                  subst hkk
                  obtain ⟨L3, hL3⟩ : ∃ L, L = L2 ++ jointsOf J nj := ⟨_, rfl⟩
                  have hl3 : L3.length ≤ 2403200 := by rw [hL3]; rw [List.length_append]; have : (jointsOf J nj).length ≤ 200 * 4002 := (by rw [jointsOf_length]; omega); omega
                  rw [← hL3] at HP36
                  have HLL3 := Lib.hid hL3
                  clear hL3
                  have c1_0 := cell_of_row _ _ 0 _ _ _ hr36_1
                  have c1_1 := cell_of_row _ _ 1 _ _ _ hr36_1
                  have c1_2 := cell_of_row _ _ 2 _ _ _ hr36_1
                  have c1_3 := cell_of_row _ _ 3 _ _ _ hr36_1
                  have c1_4 := cell_of_row _ _ 4 _ _ _ hr36_1
                  have c1_5 := cell_of_row _ _ 5 _ _ _ hr36_1
                  have c1_6 := cell_of_row _ _ 6 _ _ _ hr36_1
                  have c1_7 := cell_of_row _ _ 7 _ _ _ hr36_1
                  have c1_8 := cell_of_row _ _ 8 _ _ _ hr36_1
                  have c1_9 := cell_of_row _ _ 9 _ _ _ hr36_1
                  have c1_10 := cell_of_row _ _ 10 _ _ _ hr36_1
                  have c1_11 := cell_of_row _ _ 11 _ _ _ hr36_1
                  have c1_12 := cell_of_row _ _ 12 _ _ _ hr36_1
                  have c1_13 := cell_of_row _ _ 13 _ _ _ hr36_1
                  have c1_14 := cell_of_row _ _ 14 _ _ _ hr36_1
                  have c1_15 := cell_of_row _ _ 15 _ _ _ hr36_1
                  have c1_16 := cell_of_row _ _ 16 _ _ _ hr36_1
                  simp at c1_0 c1_1 c1_2 c1_3 c1_4 c1_5 c1_6 c1_7 c1_8 c1_9 c1_10 c1_11 c1_12 c1_13 c1_14 c1_15 c1_16
                  go_wp2_with fail
                  clear c1_0 c1_1 c1_2 c1_3 c1_4 c1_5 c1_6 c1_7 c1_8 c1_9 c1_10 c1_11 c1_12 c1_13 c1_14 c1_15 c1_16
                  go_loopw [88] (fun i wr => ∃ k : Nat, k ≤ ns ∧ i = .int .i64 k ∧ wr.heap[w.heap.size]? = some (.cells #[.pointer (some ⟨g, 0, none⟩)] 71 (0, 0)) ∧ wr.heap[w.heap.size + 1]? = some (.cells #[.int .i64 a1, .int .i64 a2, .int .i64 a3, .int .i64 a4, .int .i64 a5, .int .i64 a6, .int .u64 (sd : Int), .int .i64 r1, .int .i64 r2, .int .i64 r3, .int .i64 e1, .int .i64 e2, .int .i64 e3, .slice pa np pc, .slice ta nt tc, .slice ja nj jc, .slice sa ns sc] 51 (0, 0)) ∧ Hid (WP g B (L3 ++ shapesOf S k) wr) ∧ Hid (Aft g B w wr)) (fun i _ => ns - (intOf i).toNat)
                  case atStart => exact ⟨0, by omega, rfl, hr36_0, hr36_1, Lib.hid (by rw [shapesOf, List.append_nil]; exact HP36.out), HU36⟩
                  case round =>
                    clear hr36_0 hr36_1 HP36 HU36
                    obtain ⟨k, hk, rfl, hr46_0, hr46_1, HP46, HU46⟩ := hrel
                    obtain ⟨y46, rfl⟩ : ∃ y : World, y = wr := ⟨_, rfl⟩
                    have hz46 := HU46.out.size
                    by_cases hlt : k < ns
                    · have hlt' : (k : Int) < ns := by omega
                      obtain ⟨eb, eoff, rfl, heb, k0, k1, k2, k3, k4, k5, k6, k7, k8, k9, k10, k11, k12⟩ := nums13 (HXX.out _ HU46.out) hlt
                      obtain ⟨x0, hx0⟩ : ∃ v, v = S (k * 13) := ⟨_, rfl⟩
                      rw [← hx0] at k0
                      obtain ⟨x1, hx1⟩ : ∃ v, v = S (k * 13 + 1) := ⟨_, rfl⟩
                      rw [← hx1] at k1
                      obtain ⟨x2, hx2⟩ : ∃ v, v = S (k * 13 + 2) := ⟨_, rfl⟩
                      rw [← hx2] at k2
                      obtain ⟨x3, hx3⟩ : ∃ v, v = S (k * 13 + 3) := ⟨_, rfl⟩
                      rw [← hx3] at k3
                      obtain ⟨x4, hx4⟩ : ∃ v, v = S (k * 13 + 4) := ⟨_, rfl⟩
                      rw [← hx4] at k4
                      obtain ⟨x5, hx5⟩ : ∃ v, v = S (k * 13 + 5) := ⟨_, rfl⟩
                      rw [← hx5] at k5
                      obtain ⟨x6, hx6⟩ : ∃ v, v = S (k * 13 + 6) := ⟨_, rfl⟩
                      rw [← hx6] at k6
                      obtain ⟨x7, hx7⟩ : ∃ v, v = S (k * 13 + 7) := ⟨_, rfl⟩
                      rw [← hx7] at k7
                      obtain ⟨x8, hx8⟩ : ∃ v, v = S (k * 13 + 8) := ⟨_, rfl⟩
                      rw [← hx8] at k8
                      obtain ⟨x9, hx9⟩ : ∃ v, v = S (k * 13 + 9) := ⟨_, rfl⟩
                      rw [← hx9] at k9
                      obtain ⟨x10, hx10⟩ : ∃ v, v = S (k * 13 + 10) := ⟨_, rfl⟩
                      rw [← hx10] at k10
                      obtain ⟨x11, hx11⟩ : ∃ v, v = S (k * 13 + 11) := ⟨_, rfl⟩
                      rw [← hx11] at k11
                      obtain ⟨x12, hx12⟩ : ∃ v, v = S (k * 13 + 12) := ⟨_, rfl⟩
                      rw [← hx12] at k12
                      have HKK := Lib.hid (show shapesOf S (k + 1) = shapesOf S k ++ shpB x0 x1 x2 x3 x4 x5 x6 x7 x8 x9 x10 x11 x12 by simp only [hx0, hx1, hx2, hx3, hx4, hx5, hx6, hx7, hx8, hx9, hx10, hx11, hx12]; rfl)
                      clear hx0 hx1 hx2 hx3 hx4 hx5 hx6 hx7 hx8 hx9 hx10 hx11 hx12
                      have hlk4 := (show (shapesOf S k).length ≤ 200 * 4002 from (by have := shapesOf_length S; first | exact Nat.le_trans (this k) (by omega) | exact Nat.le_trans (this ns) (by omega)))
                      have hlL4 : (L3 ++ shapesOf S k).length ≤ 3203600 := by rw [List.length_append]; omega
                      go_upto_region 27 with fail
                      have hl46_0 := lt_heap hr46_0
                      have hl46_1 := lt_heap hr46_1
                      have hb47 := Ve.below_n1 y46 (.cells #[.int .i64 x0, .int .i64 x1, .int .i64 x2, .int .i64 x3, .int .i64 x4, .int .i64 x5, .int .i64 x6, .int .i64 x7, .int .i64 x8, .int .i64 x9, .int .i64 x10, .int .i64 x11, .int .i64 x12] 97)
                      have hp47 := HP46.out.new hb47
                      have hb47 := Aft.of (g := g) (base := B) hb47
                      have hN := heap_alloc_last y46 (.cells #[.int .i64 x0, .int .i64 x1, .int .i64 x2, .int .i64 x3, .int .i64 x4, .int .i64 x5, .int .i64 x6, .int .i64 x7, .int .i64 x8, .int .i64 x9, .int .i64 x10, .int .i64 x11, .int .i64 x12] 97)
                      obtain ⟨y47, hy47⟩ : ∃ y, y46.alloc (.cells #[.int .i64 x0, .int .i64 x1, .int .i64 x2, .int .i64 x3, .int .i64 x4, .int .i64 x5, .int .i64 x6, .int .i64 x7, .int .i64 x8, .int .i64 x9, .int .i64 x10, .int .i64 x11, .int .i64 x12] 97) = y := ⟨_, rfl⟩
                      have hs47 : y47.heap.size = y46.heap.size + 1 := by rw [← hy47]; simp
                      rw [hy47] at hb47 hN hp47 ⊢
                      clear hy47
                      have HP47 := Lib.hid hp47
                      have hz47 := hb47.size
                      have hl47_0 := lt_heap hr46_0
                      have hl47_1 := lt_heap hr46_1
                      have hr47_0 := hb47.other _ _ _ _ (by omega) (by decide) hr46_0
                      have hr47_1 := hb47.other _ _ _ _ (by omega) (by decide) hr46_1
                      have HU47 := Lib.hid (HU46.out.trans hb47)
                      clear hr46_0 hr46_1 HU46
                      have hr47_2 := hN
                      clear hN
                      replace hs47 : y46.heap.size < y47.heap.size := by omega
                      have HWL0 := Lib.hid hr47_0
                      have HWZ0 := Lib.hid (show (Tryz.prog.info? 71).map (·.size) = some (#[.pointer (some ⟨g, 0, none⟩)] : Array Value).size by kernel_rfl)
                      have HWL1 := Lib.hid hr47_2
                      have HWZ1 := Lib.hid (show (Tryz.prog.info? 97).map (·.size) = some (#[.int .i64 x0, .int .i64 x1, .int .i64 x2, .int .i64 x3, .int .i64 x4, .int .i64 x5, .int .i64 x6, .int .i64 x7, .int .i64 x8, .int .i64 x9, .int .i64 x10, .int .i64 x11, .int .i64 x12] : Array Value).size by kernel_rfl)
                      go_wp2_with (first | (with_reducible refine wpList_load_row rfl 71 (.tmp 2) rfl (w.heap.size) rfl 71 #[.pointer (some ⟨g, 0, none⟩)] (0, 0) _ HWL0.out Tryz.underlying71 rfl HWZ0.out ?_) | (with_reducible refine wpList_load_row rfl 97 (.tmp 13) rfl (y46.heap.size) rfl 97 #[.int .i64 x0, .int .i64 x1, .int .i64 x2, .int .i64 x3, .int .i64 x4, .int .i64 x5, .int .i64 x6, .int .i64 x7, .int .i64 x8, .int .i64 x9, .int .i64 x10, .int .i64 x11, .int .i64 x12] (0, 0) _ HWL1.out Tryz.underlying97 rfl HWZ1.out ?_))
                      clear HWL0 HWZ0 HWL1 HWZ1
                      refine (wshape g B (L3 ++ shapesOf S k) x0 x1 x2 x3 x4 x5 x6 x7 x8 x9 x10 x11 x12 _ HP47.out (by omega)).mono ?_
                      rintro e y48 ⟨rfl, hp48, hb48⟩
                      have HP48 := Lib.hid hp48
                      have hz48 := hb48.size
                      have hr48_0 := hb48.other _ _ _ _ (by omega) (by decide) hr47_0
                      have hr48_1 := hb48.other _ _ _ _ (by omega) (by decide) hr47_1
                      have hr48_2 := hb48.other _ _ _ _ (by omega) (by decide) hr47_2
                      have HU48 := Lib.hid (HU47.out.trans hb48)
                      clear hr47_0 hr47_1 hr47_2 HU47
                      have HQ := Lib.hid (show WP g B (L3 ++ shapesOf S (k + 1)) y48 by rw [HKK.out]; simpa only [List.append_assoc] using HP48.out)
                      go_wp2_with fail
                      go_roundw
                      case rel => exact ⟨k + 1, by omega, by go_num, hr48_0, hr48_1, HQ, HU48⟩
                      case measure => simp [intOf]; omega
                    · have hkk : ns = k := by omega
                      subst hkk
                      obtain ⟨L4, hL4⟩ : ∃ L, L = L3 ++ shapesOf S ns := ⟨_, rfl⟩
                      have hl4 : L4.length ≤ 3203600 := by rw [hL4]; rw [List.length_append]; have : (shapesOf S ns).length ≤ 200 * 4002 := (by have := shapesOf_length S; first | exact Nat.le_trans (this k) (by omega) | exact Nat.le_trans (this ns) (by omega)); omega
                      rw [← hL4] at HP46
                      have HLL4 := Lib.hid hL4
                      clear hL4
                      have HE := Lib.hid (show WP g B (l ++ sceneB a1 a2 a3 a4 a5 a6 sd r1 r2 r3 e1 e2 e3 np nt nj ns P way kn K J S) y46 by
                        have h := HP46.out
                        rw [HLL4.out, HLL3.out, HLL2.out, HLL1.out, HLL0.out] at h
                        unfold sceneB
                        simpa only [List.append_assoc] using h)
                      go_wp2
                      go_end0
                      exact ⟨rfl, HE.out, HU46.out⟩

end Go.Proofs.YtfbppiamlolfpaaGreat.Jw
