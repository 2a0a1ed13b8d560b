/- Layer 7: the contracts of a reader's three numbers, points, lights. -/
import Derived.Test.YtgkfoiekminfmaaReh
namespace Go.Proofs.Ytgkfoiekminfmaa.Re
open Go.RowKit Go.Proofs.Ytgkfoiekminfmaa Go.Proofs.Ytgkfoiekminfmaa.Rp

/-- numbers in a block of their own -/
def Bk (b n : Nat) (f : Nat → Int) (w : World) : Prop :=
  b < w.heap.size ∧ (∀ j, j < n → w.cell? ⟨b, j, none⟩ = some (.int .i64 (f j))) ∧ ∀ j, w.frozen? ⟨b, j, none⟩ = false

theorem Bk.aft {b n g : Nat} {f : Nat → Int} {w w' : World} (h : Bk b n f w) (ha : Aft g w.heap.size w w') (hn : b ≠ g) : Bk b n f w' :=
  ⟨Nat.lt_of_lt_of_le h.1 ha.size, fun j hj => (ha.cell (p := ⟨b, j, none⟩) h.1 h.1 hn).trans (h.2.1 j hj), fun j => (ha.frozen (p := ⟨b, j, none⟩) h.1 h.1 hn).trans (h.2.2 j)⟩

theorem Bk.put {b n : Nat} {f : Nat → Int} {w : World} (h : Bk b n f w) {i : Nat} (hi : i < n) (x : Int) : Bk b n (fun j => if j = i then x else f j) (w.setCell ⟨b, i, none⟩ (.int .i64 x)) :=
  ⟨by simpa using h.1, fun j hj => by
    rw [cset (h.2.1 i hi)]
    by_cases e : j = i
    · simp only [if_pos e]
    · simp only [if_neg e]; exact h.2.1 j hj, fun j => by rw [World.frozen?_setCell]; exact h.2.2 j⟩

theorem Bk.far {b n c : Nat} {f : Nat → Int} {w : World} (h : Bk b n f w) (hn : b ≠ c) (i : Nat) (u : Value) : Bk b n f (w.setCell ⟨c, i, none⟩ u) :=
  ⟨by simpa using h.1, fun j hj => by rw [cfar hn]; exact h.2.1 j hj, fun j => by rw [World.frozen?_setCell]; exact h.2.2 j⟩

theorem Bk.congr {b n : Nat} {f f' : Nat → Int} {w : World} (h : Bk b n f w) (he : ∀ j, j < n → f j = f' j) : Bk b n f' w := ⟨h.1, fun j hj => by rw [← he j hj]; exact h.2.1 j hj, h.2.2⟩

theorem Bk.three {b : Nat} {f : Nat → Int} {w : World} (h : Bk b 3 f w) : w.cell? ⟨b, 0, none⟩ = some (.int .i64 (f 0)) ∧ w.cell? ⟨b, 1, none⟩ = some (.int .i64 (f 1)) ∧ w.cell? ⟨b, 2, none⟩ = some (.int .i64 (f 2)) ∧ w.frozen? ⟨b, 0, none⟩ = false ∧ w.frozen? ⟨b, 1, none⟩ = false ∧ w.frozen? ⟨b, 2, none⟩ = false :=
  ⟨h.2.1 0 (by omega), h.2.1 1 (by omega), h.2.1 2 (by omega), h.2.2 0, h.2.2 1, h.2.2 2⟩

theorem Bk.tri {b : Nat} {f : Nat → Int} {w : World} (h : Bk b 3 f w) (x y z : Int) :
    (w.setCell ⟨b, 0, none⟩ (.int .i64 x)).cell? ⟨b, 0, none⟩ = some (.int .i64 x) ∧
    ((w.setCell ⟨b, 0, none⟩ (.int .i64 x)).setCell ⟨b, 1, none⟩ (.int .i64 y)).cell? ⟨b, 1, none⟩ = some (.int .i64 y) ∧
    (((w.setCell ⟨b, 0, none⟩ (.int .i64 x)).setCell ⟨b, 1, none⟩ (.int .i64 y)).setCell ⟨b, 2, none⟩ (.int .i64 z)).cell? ⟨b, 2, none⟩ = some (.int .i64 z) := by
  have h0 := h.put (i := 0) (by omega) x
  have h1 := h0.put (i := 1) (by omega) y
  have h2 := h1.put (i := 2) (by omega) z
  exact ⟨h0.2.1 0 (by omega), h1.2.1 1 (by omega), h2.2.1 2 (by omega)⟩

theorem bk_new0 (w : World) (t t2 : TypeId) : Bk w.heap.size 3 (fun _ => 0) ((w.alloc (.cells #[.int .i64 0, .int .i64 0, .int .i64 0] t)).alloc (.cells #[.int .i64 0, .int .i64 0, .int .i64 0] t2)) :=
  ⟨by simp; omega, fun j hj => by
    match j, hj with
    | 0, _ => go_simp
    | 1, _ => go_simp
    | 2, _ => go_simp, fun j => by go_simp⟩

theorem bk_new1 (w : World) (t t2 : TypeId) : Bk (w.heap.size + 1) 3 (fun _ => 0) ((w.alloc (.cells #[.int .i64 0, .int .i64 0, .int .i64 0] t)).alloc (.cells #[.int .i64 0, .int .i64 0, .int .i64 0] t2)) :=
  ⟨by simp, fun j hj => by
    match j, hj with
    | 0, _ => go_simp
    | 1, _ => go_simp
    | 2, _ => go_simp, fun j => by go_simp⟩

theorem Aft.setNew {g base : Nat} {a w : World} (h : Aft g base a w) {b : Nat} (hb : a.heap.size ≤ b) (hB : base ≤ b) (j : Nat) (u : Value) : Aft g base a (w.setCell ⟨b, j, none⟩ u) :=
  ⟨h.os, h.tape, h.output, by simpa using h.size, fun k hk hw hn => by rw [Below.heap_setCell _ _ _ _ (by show k ≠ b; omega)]; exact h.block k hk hw hn,
    fun k cs t fr h1 h2 h3 => by
      have := lt_of_heap h3
      rw [Below.heap_setCell _ _ _ _ (by show k ≠ b; omega)]; exact h.other k cs t fr h1 h2 h3⟩

theorem rfix_lit (p : Value) (g : Nat) {B : Nat} (s : St) (k : Nat) (w : World) (h : RP p g B (fixK s k) w) :
    Calls Try.prog 66 #[p] w fun e w' => (∃ z, e = .returned (.int .i64 z) ∧ Hid (z = fixV s k)) ∧ RP p g B (fixK s (k + 1)) w' ∧ Aft g w.heap.size w w' :=
  (rfix_any p g (fixK s k) w h).mono fun _ _ ⟨h1, h2, h3⟩ => ⟨⟨_, h1, Lib.hid rfl⟩, h2, h3⟩

set_option maxHeartbeats 2000000 in
theorem three_any (p : Value) (g : Nat) {B : Nat} (s : St) (w : World) (h : RP p g B s w) (hg : g < w.heap.size) (hB : B ≤ w.heap.size) :
    Calls Try.prog 74 #[p] w fun e w' => e = .returned (V3 ((threeS s).1 0) ((threeS s).1 1) ((threeS s).1 2)) ∧ RP p g B (threeS s).2 w' ∧ Aft g w.heap.size w w' := by
  have HP := Lib.hid h
  clear h
  go_enter Try.func74, Try.ntmps74
  go_wp2_with fail
  go_loopw [6] (fun i wr => ∃ k : Nat, k ≤ 3 ∧ i = .int .i64 k ∧ Hid (RP p g B (fixK s k) wr) ∧ Aft g w.heap.size w wr ∧ Hid (Bk (w.heap.size + 1) 3 (fun j => if j < k then fixV s j else 0) wr) ∧ Hid (Bk w.heap.size 3 (fun _ => 0) wr)) (fun i _ => 3 - (intOf i).toNat)
  case atStart => exact ⟨0, by omega, rfl, Lib.hid (HP.out.new (below_n2 _ _ _)), Aft.of (below_n2 _ _ _), Lib.hid ((bk_new1 w _ _).congr (fun j _ => by simp)), Lib.hid (bk_new0 w _ _)⟩
  case round =>
    obtain ⟨k, hk, rfl, HR, hA, H1, H0⟩ := hrel
    by_cases hlt : k < 3
    · have hlt' : (k : Int) < 3 := by omega
      have hs1 := H1.out.1
      go_wp2_with fail
      refine (rfix_lit p g s k _ HR.out).mono ?_
      rintro e w1 ⟨⟨z, rfl, HZ⟩, hr1, ha1⟩
      have hs2 := ha1.size
      have hb1 := H1.out.aft ha1 (by omega)
      have hb0 := Lib.hid (H0.out.aft ha1 (by omega))
      have HR2 := Lib.hid ((hr1.set (b := w.heap.size + 1) (by omega) k (.int .i64 z)))
      have HB2 := Lib.hid ((hb1.put (i := k) hlt z).congr (f' := fun j => if j < k + 1 then fixV s j else 0) (fun j hj => by
        by_cases e : j = k
        · subst e; simp [HZ.out]
        · simp only [if_neg e]
          by_cases e2 : j < k
          · rw [if_pos e2, if_pos (by omega)]
          · rw [if_neg e2, if_neg (by omega)]))
      have HB0 := Lib.hid (hb0.out.far (c := w.heap.size + 1) (by omega) k (.int .i64 z))
      have hA2 := (hA.trans (ha1.mono hA.size)).setNew (b := w.heap.size + 1) (by omega) (by omega) k (.int .i64 z)
      have c0 := hb1.2.1 k hlt
      have f0 := hb1.2.2 k
      clear hb1 hr1 ha1
      go_wp2_with fail
      go_roundw
      case rel => exact ⟨k + 1, by omega, by go_num, HR2, hA2, HB2, HB0⟩
      case measure => simp [intOf]; omega
    · obtain rfl : k = 3 := by omega
      have hs1 := H1.out.1
      obtain ⟨t, ht⟩ : ∃ t, t = fixK s 3 := ⟨_, rfl⟩
      obtain ⟨o0, o1, o2, of0, of1, of2⟩ := H0.out.three
      obtain ⟨q0, q1, q2, -, -, -⟩ := (H1.out.congr (f' := fixV s) (fun j hj => if_pos hj)).three
      have HR3 := HR.out
      rw [← ht] at HR3
      by_cases he : t.2 = 0
      · have HV := Lib.hid (show threeS s = (fixV s, t) by unfold threeS; rw [← ht, if_neg (by simp [he])])
        clear ht
        obtain ⟨x0, hx0⟩ : ∃ x, x = fixV s 0 := ⟨_, rfl⟩
        obtain ⟨x1, hx1⟩ : ∃ x, x = fixV s 1 := ⟨_, rfl⟩
        obtain ⟨x2, hx2⟩ : ∃ x, x = fixV s 2 := ⟨_, rfl⟩
        rw [← hx0] at q0
        rw [← hx1] at q1
        rw [← hx2] at q2
        have HX := Lib.hid (And.intro hx0 (And.intro hx1 hx2))
        clear hx0 hx1 hx2
        have he' : (t.2 == 0) = true := by simpa using he
        clear he
        have hz := ((HR3.set (b := w.heap.size) hB 0 (.int .i64 x0)).set (b := w.heap.size) hB 1 (.int .i64 x1)).set (b := w.heap.size) hB 2 (.int .i64 x2)
        have hAz := ((hA.setNew (Nat.le_refl _) (Nat.le_refl _) 0 (.int .i64 x0)).setNew (Nat.le_refl _) (Nat.le_refl _) 1 (.int .i64 x1)).setNew (Nat.le_refl _) (Nat.le_refl _) 2 (.int .i64 x2)
        go_wp2_with (go_at_call 62; refine (err_any _ g t _ HR3).mono ?_; rintro e w9 ⟨rfl, rfl⟩)
        obtain ⟨e0, e1, e2⟩ := H0.out.tri x0 x1 x2
        refine bodyPost_ret (v := V3 x0 x1 x2) (by simp [results, Try.results74, go_sem, e0, e1, e2]) rfl ⟨?_, ?_, hAz⟩
        · rw [HV.out, HX.out.1, HX.out.2.1, HX.out.2.2]
        · rw [HV.out]; exact hz
      · have HV := Lib.hid (show threeS s = (fun _ => 0, t) by unfold threeS; rw [← ht, if_pos he])
        clear ht q0 q1 q2
        have he' : (t.2 == 0) = false := by simpa using he
        clear he
        have hz := ((HR3.set (b := w.heap.size) hB 0 (.int .i64 0)).set (b := w.heap.size) hB 1 (.int .i64 0)).set (b := w.heap.size) hB 2 (.int .i64 0)
        have hAz := ((hA.setNew (Nat.le_refl _) (Nat.le_refl _) 0 (.int .i64 0)).setNew (Nat.le_refl _) (Nat.le_refl _) 1 (.int .i64 0)).setNew (Nat.le_refl _) (Nat.le_refl _) 2 (.int .i64 0)
        go_wp2_with (go_at_call 62; refine (err_any _ g t _ HR3).mono ?_; rintro e w9 ⟨rfl, rfl⟩)
        obtain ⟨e0, e1, e2⟩ := H0.out.tri 0 0 0
        refine bodyPost_ret (v := V3 0 0 0) (by simp [results, Try.results74, go_sem, e0, e1, e2]) rfl ⟨?_, ?_, hAz⟩
        · rw [HV.out]
        · rw [HV.out]; exact hz

theorem three_lit (p : Value) (g : Nat) {B : Nat} (s : St) (w : World) (h : RP p g B s w) (hg : g < w.heap.size) (hB : B ≤ w.heap.size) :
    Calls Try.prog 74 #[p] w fun e w' => (∃ x y z, e = .returned (V3 x y z) ∧ Hid (x = (threeS s).1 0 ∧ y = (threeS s).1 1 ∧ z = (threeS s).1 2)) ∧ RP p g B (threeS s).2 w' ∧ Aft g w.heap.size w w' :=
  (three_any p g s w h hg hB).mono fun _ _ ⟨h1, h2, h3⟩ => ⟨⟨_, _, _, h1, Lib.hid ⟨rfl, rfl, rfl⟩⟩, h2, h3⟩

theorem set3 {g base : Nat} {a w : World} (h : Aft g base a w) {b : Nat} (hb : a.heap.size ≤ b) (hB : base ≤ b) (u0 u1 u2 : Value) : Aft g base a (((w.setCell ⟨b, 0, none⟩ u0).setCell ⟨b, 1, none⟩ u1).setCell ⟨b, 2, none⟩ u2) :=
  ((h.setNew hb hB 0 u0).setNew hb hB 1 u1).setNew hb hB 2 u2

theorem RP.set3 {p : Value} {g B : Nat} {s : St} {w : World} (h : RP p g B s w) {b : Nat} (hb : B ≤ b) (u0 u1 u2 : Value) : RP p g B s (((w.setCell ⟨b, 0, none⟩ u0).setCell ⟨b, 1, none⟩ u1).setCell ⟨b, 2, none⟩ u2) :=
  ((h.set hb 0 u0).set hb 1 u1).set hb 2 u2

theorem bk_one0 (w : World) (t : TypeId) : Bk w.heap.size 3 (fun _ => 0) (w.alloc (.cells #[.int .i64 0, .int .i64 0, .int .i64 0] t)) :=
  ⟨by simp, fun j hj => by
    match j, hj with
    | 0, _ => go_simp
    | 1, _ => go_simp
    | 2, _ => go_simp, fun j => by go_simp⟩

set_option maxHeartbeats 2000000 in
theorem rvec_any (p : Value) (g : Nat) {B : Nat} (s : St) (w : World) (h : RP p g B s w) (hg : g < w.heap.size) (hB : B ≤ w.heap.size) :
    Calls Try.prog 68 #[p] w fun e w' => e = .returned (V3 ((threeS s).1 0) ((threeS s).1 1) ((threeS s).1 2)) ∧ RP p g B (threeS s).2 w' ∧ Aft g w.heap.size w w' := by
  have HP := Lib.hid h
  have H0 := Lib.hid (bk_one0 w 73)
  clear h
  go_enter Try.func68, Try.ntmps68
  go_wp2_with fail
  refine (three_lit p g s _ (HP.out.new (below_n1 _ _)) (by simp; omega) (by simp; omega)).mono ?_
  rintro e w1 ⟨⟨x, y, z, rfl, HV⟩, hr1, ha1⟩
  have hs1 := ha1.size
  have HB := Lib.hid (H0.out.aft ha1 (by omega))
  have hA1 := (Aft.of (g := g) (base := w.heap.size) (below_n1 w _)).trans (ha1.mono (by simp))
  have hR := hr1.new (below_n1 w1 (.cells #[.int .i64 x, .int .i64 y, .int .i64 z] 127))
  have hA2 := hA1.alloc (.cells #[.int .i64 x, .int .i64 y, .int .i64 z] 127)
  have hB2 := HB.out.aft (Aft.of (g := g) (base := w1.heap.size) (below_n1 w1 (.cells #[.int .i64 x, .int .i64 y, .int .i64 z] 127))) (by omega)
  obtain ⟨o0, o1, o2, of0, of1, of2⟩ := hB2.three
  have HT := Lib.hid (hB2.tri x y z)
  have HR3 := Lib.hid (hR.set3 (b := w.heap.size) hB (.int .i64 x) (.int .i64 y) (.int .i64 z))
  have HA3 := Lib.hid (set3 hA2 (b := w.heap.size) (Nat.le_refl _) (Nat.le_refl _) (.int .i64 x) (.int .i64 y) (.int .i64 z))
  clear hA2 hR hB2 ha1 hr1 hA1
  go_wp2_with fail
  obtain ⟨e0, e1, e2⟩ := HT.out
  refine bodyPost_ret (v := V3 x y z) (by simp [results, Try.results68, go_sem, e0, e1, e2]) rfl ⟨?_, HR3.out, HA3.out⟩
  rw [HV.out.1, HV.out.2.1, HV.out.2.2]

set_option maxHeartbeats 2000000 in
theorem rhue_any (p : Value) (g : Nat) {B : Nat} (s : St) (w : World) (h : RP p g B s w) (hg : g < w.heap.size) (hB : B ≤ w.heap.size) :
    Calls Try.prog 59 #[p] w fun e w' => e = .returned (V3 ((threeS s).1 0) ((threeS s).1 1) ((threeS s).1 2)) ∧ RP p g B (threeS s).2 w' ∧ Aft g w.heap.size w w' := by
  have HP := Lib.hid h
  have H0 := Lib.hid (bk_one0 w 68)
  clear h
  go_enter Try.func59, Try.ntmps59
  go_wp2_with fail
  refine (three_lit p g s _ (HP.out.new (below_n1 _ _)) (by simp; omega) (by simp; omega)).mono ?_
  rintro e w1 ⟨⟨x, y, z, rfl, HV⟩, hr1, ha1⟩
  have hs1 := ha1.size
  have HB := Lib.hid (H0.out.aft ha1 (by omega))
  have hA1 := (Aft.of (g := g) (base := w.heap.size) (below_n1 w _)).trans (ha1.mono (by simp))
  have hR := hr1.new (below_n1 w1 (.cells #[.int .i64 x, .int .i64 y, .int .i64 z] 127))
  have hA2 := hA1.alloc (.cells #[.int .i64 x, .int .i64 y, .int .i64 z] 127)
  have hB2 := HB.out.aft (Aft.of (g := g) (base := w1.heap.size) (below_n1 w1 (.cells #[.int .i64 x, .int .i64 y, .int .i64 z] 127))) (by omega)
  obtain ⟨o0, o1, o2, of0, of1, of2⟩ := hB2.three
  have HT := Lib.hid (hB2.tri x y z)
  have HR3 := Lib.hid (hR.set3 (b := w.heap.size) hB (.int .i64 x) (.int .i64 y) (.int .i64 z))
  have HA3 := Lib.hid (set3 hA2 (b := w.heap.size) (Nat.le_refl _) (Nat.le_refl _) (.int .i64 x) (.int .i64 y) (.int .i64 z))
  clear hA2 hR hB2 ha1 hr1 hA1
  go_wp2_with fail
  obtain ⟨e0, e1, e2⟩ := HT.out
  refine bodyPost_ret (v := V3 x y z) (by simp [results, Try.results59, go_sem, e0, e1, e2]) rfl ⟨?_, HR3.out, HA3.out⟩
  rw [HV.out.1, HV.out.2.1, HV.out.2.2]
end Go.Proofs.Ytgkfoiekminfmaa.Re
