/- Films, sheets, as bytes, by the program: a writer's lists, a sheet, a film. -/
import Derived.Test.YtgkfoiekminfmaaFd
namespace Go.Proofs.Ytgkfoiekminfmaa.Fm
open Go.RowKit Go.Proofs.Ytgkfoiekminfmaa Go.Proofs.Ytgkfoiekminfmaa.Rp Go.Proofs.Ytgkfoiekminfmaa.Re Go.Proofs.Ytgkfoiekminfmaa.Au Go.Proofs.Ytgkfoiekminfmaa.Jw
set_option linter.unusedVariables false
set_option linter.unusedSimpArgs false

/-- the bytes of some numbers, so many bytes each -/
def bts (size : Nat) (L : Nat → Int) : Nat → List UInt8
  | 0 => []
  | k + 1 => bts size L k ++ bytesOf (u64 (L k)) size

theorem bts_length (size : Nat) (L : Nat → Int) (k : Nat) : (bts size L k).length = k * size := by
  induction k with
  | zero => simp [bts]
  | succ k ih => simp only [bts, List.length_append, ih, bytesOf_length, Nat.succ_mul]

def lst (L : Nat → Int) (n : Nat) : List Int := (List.range n).map L

theorem lst_length (L : Nat → Int) (n : Nat) : (lst L n).length = n := by simp [lst]

theorem lst_get (L : Nat → Int) (n j : Nat) (h : j < n) : (lst L n).getD j 0 = L j := by simp [lst, List.getD, h]

theorem bts_lst (size : Nat) (L : Nat → Int) (n : Nat) : numsOf size (lst L n) = bts size L n := by
  induction n with
  | zero => rfl
  | succ n ih =>
    have e : lst L (n + 1) = lst L n ++ [L n] := by simp [lst, List.range_succ]
    rw [e, numsOf_snoc, ih, bts]

def sheetB (W H : Int) (nl : Nat) (L : Nat → Int) : List UInt8 := numsOf 2 [W, H] ++ vecsOf L nl

def filmB (f : Flm) : List UInt8 := sheetB f.W f.H f.nl f.L ++ bts 5 f.D f.nd ++ vecsOf f.N f.nn ++ vecsOf f.B f.nb ++ bts 2 f.S f.ns ++ bts 2 f.F f.nf

theorem sheetB_length (W H : Int) (nl : Nat) (L : Nat → Int) : (sheetB W H nl L).length = 4 + nl * 15 := by
  unfold sheetB; rw [List.length_append, numsOf_length, vecsOf_length]; simp

theorem filmB_length (f : Flm) : (filmB f).length = 4 + f.nl * 15 + f.nd * 5 + f.nn * 15 + f.nb * 15 + f.ns * 2 + f.nf * 2 := by
  unfold filmB; simp only [List.length_append, sheetB_length, vecsOf_length, bts_length]

theorem RwP.aft {g B c : Nat} {w w' : World} {a : Option Addr} {n : Nat} {L : Nat → Int} (h : RwP (fun b => b < B) c w a n L) (hc : 0 < c) (ha : Aft g B w w') (hB : B ≤ g) : RwP (fun b => b < B) c w' a n L :=
  ((h.lt hc).keep (fun b hb => ha.block b hb.1 hb.2 (by omega))).weak (fun b hb => hb.1)

theorem aft_of_ws {g B : Nat} {w w' : World} (h : Aw (WS g B w) w w') : Aft g B w w' := aft_of_aw h

theorem wrow {g B : Nat} {w : World} {a : Option Addr} {n : Nat} {L : Nat → Int} (h : RwP (fun b => b < B) 1 w a n L) (hB : B ≤ g) : Re.Ints (WS g B w) w a (lst L n) := by
  rcases h with h | ⟨b, off, h1, h2, h3⟩
  · subst h; exact .inl rfl
  · refine .inr ⟨b, off, h1, fun w' ha j hj => ?_⟩
    rw [lst_length] at hj
    rw [lst_get L n j hj]
    have hc := h3 j (by omega)
    have hlt := World.block_lt_of_cell? w _ hc
    exact (ha.cell (p := ⟨b, off + j, none⟩) ⟨hlt, by show b ≠ g; omega, .inl h2⟩ hlt).trans hc

set_option maxHeartbeats 1000000 in
theorem fix_row (g : Nat) (S : Nat → Prop) (l : List UInt8) (a : Option Addr) (cap : Nat) (zs : List Int) (w : World) (hW : WAt g S l w) (hr : Re.Ints S w a zs) (hz : zs.length ≤ 5000) (hsz : l.length + 100000 ≤ 140737488355328) :
    Calls Try.prog 55 #[.pointer (some ⟨g, 0, none⟩), .slice a zs.length cap] w fun e w' => e = .returned (.tuple #[]) ∧ WAt g S (l ++ numsOf 5 zs) w' ∧ Aw S w w' := by
  have HW := Lib.hid hW
  have HR := Lib.hid hr
  obtain ⟨len, hlen⟩ : ∃ len, len = zs.length := ⟨_, rfl⟩
  rw [← hlen] at hz ⊢
  have HL := Lib.hid hlen
  clear hW hr hlen
  go_enter Try.func55, Try.ntmps55
  go_wp2_with fail
  go_loopw [8] (fun i wr => ∃ k : Nat, k ≤ len ∧ i = .int .i64 k ∧ Hid (WAt g S (l ++ numsOf 5 (zs.take k)) wr) ∧ Aw S w wr) (fun i _ => len - (intOf i).toNat)
  case atStart => exact ⟨0, Nat.zero_le _, rfl, Lib.hid (by rw [List.take_zero, numsOf_nil, List.append_nil]; exact HW.out), Aw.refl _ _⟩
  case round =>
    obtain ⟨k, hk, rfl, HI, hA⟩ := hrel
    by_cases hlt : k < len
    · have hlt' : (k : Int) < len := by omega
      have hkz : k < zs.length := by have := HL.out; omega
      obtain h' | ⟨b, off, rfl, hc⟩ := HR.out
      · exfalso; rw [h'] at hkz; simp at hkz
      have hck := hc wr hA k hkz
      have HKZ := Lib.hid hkz
      obtain ⟨z, hz'⟩ : ∃ z, z = zs.getD k 0 := ⟨_, rfl⟩
      rw [← hz'] at hck
      have HZ := Lib.hid hz'
      clear hc hz' hkz
      obtain ⟨n, hn⟩ : ∃ n : Nat, n = u64 z := ⟨_, rfl⟩
      have hnz : IntKind.u64.wrap z = (n : Int) := by rw [hn, u64_wrap]
      have hnl : n < 18446744073709551616 := by rw [hn]; exact u64_lt z
      have HN := Lib.hid hn
      clear hn
      have HB := Lib.hid (show (l ++ numsOf 5 (zs.take k)).length + 8 ≤ 140737488355328 by
        rw [List.length_append, numsOf_length, List.length_take]
        omega)
      go_wp2_with fail
      refine (number_any g S _ n 5 hnl (by omega) _ HI.out HB.out).mono ?_
      rintro e w1 ⟨rfl, hw1, ha1⟩
      have HI2 := Lib.hid (show WAt g S (l ++ numsOf 5 (zs.take (k + 1))) w1 by
        rw [take_snoc zs k HKZ.out, numsOf_snoc, ← HZ.out, ← HN.out, ← List.append_assoc]; exact hw1)
      have hA2 := hA.trans ha1
      clear hw1 ha1 hck
      go_wp2_with fail
      go_roundw
      case rel => exact ⟨k + 1, by omega, by go_num, HI2, hA2⟩
      case measure => simp [intOf]; omega
    · obtain rfl : k = len := by omega
      go_wp2
      go_end0
      exact ⟨rfl, by have h := HI.out; rw [List.take_of_length_le (by have := HL.out; omega)] at h; exact h, hA⟩

set_option maxHeartbeats 2000000 in
theorem wvecs5 (g B : Nat) (l : List UInt8) (b off cap n : Nat) (L : Nat → Int) (w : World) (hw : WP g B l w) (hr : ∀ W, Aft g B w W → ∀ j, j < n * 3 → W.cell? ⟨b, off + j, none⟩ = some (.int .i64 (L j))) (hn : n ≤ 5000) (hl : l.length ≤ 20000000) :
    Calls Try.prog 56 #[.pointer (some ⟨g, 0, none⟩), .slice (some ⟨b, off, none⟩) n cap] w fun e w' => e = .returned (.tuple #[]) ∧ WP g B (l ++ vecsOf L n) w' ∧ Aft g B w w' := by
  have HW := Lib.hid hw
  have HR := Lib.hid hr
  clear hw hr
  go_enter Try.func56, Try.ntmps56
  go_wp2_with fail
  go_loopw [8] (fun i wr => ∃ k : Nat, k ≤ n ∧ i = .int .i64 k ∧ Hid (WP g B (l ++ vecsOf L k) wr) ∧ Hid (Aft g B w wr)) (fun i _ => n - (intOf i).toNat)
  case atStart => exact ⟨0, by omega, rfl, Lib.hid (by rw [vecsOf, List.append_nil]; exact HW.out), Lib.hid (Aft.refl _ _ _)⟩
  case round =>
    obtain ⟨k, hk, rfl, HI, HA⟩ := hrel
    by_cases hlt : k < n
    · have hlt' : (k : Int) < n := by omega
      have c0 : wr.cell? ⟨b, off + k * 3, none⟩ = some (.int .i64 (L (k * 3))) := HR.out wr HA.out (k * 3) (by omega)
      have c1 : wr.cell? ⟨b, off + k * 3 + 1, none⟩ = some (.int .i64 (L (k * 3 + 1))) := HR.out wr HA.out (k * 3 + 1) (by omega)
      have c2 : wr.cell? ⟨b, off + k * 3 + 2, none⟩ = some (.int .i64 (L (k * 3 + 2))) := HR.out wr HA.out (k * 3 + 2) (by omega)
      obtain ⟨x, hx⟩ : ∃ x, x = L (k * 3) := ⟨_, rfl⟩
      obtain ⟨y, hy⟩ : ∃ y, y = L (k * 3 + 1) := ⟨_, rfl⟩
      obtain ⟨z, hz⟩ : ∃ z, z = L (k * 3 + 2) := ⟨_, rfl⟩
      rw [← hx] at c0
      rw [← hy] at c1
      rw [← hz] at c2
      have HXYZ := Lib.hid (show vecsOf L (k + 1) = vecsOf L k ++ numsOf 5 [x, y, z] by rw [hx, hy, hz]; rfl)
      clear hx hy hz
      go_wp2_with fail
      have HS := HI.out.size
      refine (wfix g B _ [x, y, z] _ 3 _ _ _ ((HI.out.new (Ve.below_n1 _ _)).new (Ve.below_n1 _ _)) (heap_last2 _ _ _) rfl (by decide) (by simp; omega) (by simp) (by rw [List.length_append, vecsOf_length]; omega)).mono ?_
      rintro e w1 ⟨rfl, hw1, ha1⟩
      have HI2 := Lib.hid (show WP g B (l ++ vecsOf L (k + 1)) w1 by rw [HXYZ.out, ← List.append_assoc]; exact hw1)
      have HA2 := Lib.hid ((HA.out.trans ((Aft.of (Ve.below_n1 _ _)).trans (Aft.of (Ve.below_n1 _ _)))).trans ha1)
      clear hw1 ha1 c0 c1 c2
      go_wp2_with fail
      go_roundw
      case rel => exact ⟨k + 1, by omega, by go_num, HI2, HA2⟩
      case measure => simp [intOf]; omega
    · obtain rfl : k = n := by omega
      go_wp2
      go_end0
      exact ⟨rfl, HI.out, HA.out⟩

set_option maxHeartbeats 2000000 in
theorem whues5 (g B : Nat) (l : List UInt8) (b off cap n : Nat) (L : Nat → Int) (w : World) (hw : WP g B l w) (hr : ∀ W, Aft g B w W → ∀ j, j < n * 3 → W.cell? ⟨b, off + j, none⟩ = some (.int .i64 (L j))) (hn : n ≤ 5000) (hl : l.length ≤ 20000000) :
    Calls Try.prog 53 #[.pointer (some ⟨g, 0, none⟩), .slice (some ⟨b, off, none⟩) n cap] w fun e w' => e = .returned (.tuple #[]) ∧ WP g B (l ++ vecsOf L n) w' ∧ Aft g B w w' := by
  have HW := Lib.hid hw
  have HR := Lib.hid hr
  clear hw hr
  go_enter Try.func53, Try.ntmps53
  go_wp2_with fail
  go_loopw [8] (fun i wr => ∃ k : Nat, k ≤ n ∧ i = .int .i64 k ∧ Hid (WP g B (l ++ vecsOf L k) wr) ∧ Hid (Aft g B w wr)) (fun i _ => n - (intOf i).toNat)
  case atStart => exact ⟨0, by omega, rfl, Lib.hid (by rw [vecsOf, List.append_nil]; exact HW.out), Lib.hid (Aft.refl _ _ _)⟩
  case round =>
    obtain ⟨k, hk, rfl, HI, HA⟩ := hrel
    by_cases hlt : k < n
    · have hlt' : (k : Int) < n := by omega
      have c0 : wr.cell? ⟨b, off + k * 3, none⟩ = some (.int .i64 (L (k * 3))) := HR.out wr HA.out (k * 3) (by omega)
      have c1 : wr.cell? ⟨b, off + k * 3 + 1, none⟩ = some (.int .i64 (L (k * 3 + 1))) := HR.out wr HA.out (k * 3 + 1) (by omega)
      have c2 : wr.cell? ⟨b, off + k * 3 + 2, none⟩ = some (.int .i64 (L (k * 3 + 2))) := HR.out wr HA.out (k * 3 + 2) (by omega)
      obtain ⟨x, hx⟩ : ∃ x, x = L (k * 3) := ⟨_, rfl⟩
      obtain ⟨y, hy⟩ : ∃ y, y = L (k * 3 + 1) := ⟨_, rfl⟩
      obtain ⟨z, hz⟩ : ∃ z, z = L (k * 3 + 2) := ⟨_, rfl⟩
      rw [← hx] at c0
      rw [← hy] at c1
      rw [← hz] at c2
      have HXYZ := Lib.hid (show vecsOf L (k + 1) = vecsOf L k ++ numsOf 5 [x, y, z] by rw [hx, hy, hz]; rfl)
      clear hx hy hz
      go_wp2_with fail
      have HS := HI.out.size
      refine (wfix g B _ [x, y, z] _ 3 _ _ _ ((HI.out.new (Ve.below_n1 _ _)).new (Ve.below_n1 _ _)) (heap_last2 _ _ _) rfl (by decide) (by simp; omega) (by simp) (by rw [List.length_append, vecsOf_length]; omega)).mono ?_
      rintro e w1 ⟨rfl, hw1, ha1⟩
      have HI2 := Lib.hid (show WP g B (l ++ vecsOf L (k + 1)) w1 by rw [HXYZ.out, ← List.append_assoc]; exact hw1)
      have HA2 := Lib.hid ((HA.out.trans ((Aft.of (Ve.below_n1 _ _)).trans (Aft.of (Ve.below_n1 _ _)))).trans ha1)
      clear hw1 ha1 c0 c1 c2
      go_wp2_with fail
      go_roundw
      case rel => exact ⟨k + 1, by omega, by go_num, HI2, HA2⟩
      case measure => simp [intOf]; omega
    · obtain rfl : k = n := by omega
      go_wp2
      go_end0
      exact ⟨rfl, HI.out, HA.out⟩

theorem wv (g B : Nat) (l : List UInt8) (a : Option Addr) (cap n : Nat) (L : Nat → Int) (w : World) (hw : WP g B l w) (hr : RwP (fun b => b < B) 3 w a n L) (hn : n ≤ 5000) (hl : l.length ≤ 20000000) :
    Calls Try.prog 56 #[.pointer (some ⟨g, 0, none⟩), .slice a n cap] w fun e w' => e = .returned (.tuple #[]) ∧ WP g B (l ++ vecsOf L n) w' ∧ Aft g B w w' := by
  have hB := hw.size.1
  rcases hr with h | ⟨b, off, rfl, h2, h3⟩
  · subst h
    cases a with
    | none =>
      go_enter Try.func56, Try.ntmps56
      go_wp2_with fail
      refine wp_loop_rounds 2 ?_
      rw [rounds_succ]
      go_wp2
      go_end0
      exact ⟨rfl, by rw [vecsOf, List.append_nil]; exact hw, Aft.refl _ _ _⟩
    | some ad =>
      go_enter Try.func56, Try.ntmps56
      go_wp2_with fail
      refine wp_loop_rounds 2 ?_
      rw [rounds_succ]
      go_wp2
      go_end0
      exact ⟨rfl, by rw [vecsOf, List.append_nil]; exact hw, Aft.refl _ _ _⟩
  · exact wvecs5 g B l b off cap n L w hw (fun W hA j hj => by
      have hlt := World.block_lt_of_cell? w _ (h3 j hj)
      exact (hA.cell (p := ⟨b, off + j, none⟩) h2 hlt (by show b ≠ g; omega)).trans (h3 j hj)) hn hl

theorem wh (g B : Nat) (l : List UInt8) (a : Option Addr) (cap n : Nat) (L : Nat → Int) (w : World) (hw : WP g B l w) (hr : RwP (fun b => b < B) 3 w a n L) (hn : n ≤ 5000) (hl : l.length ≤ 20000000) :
    Calls Try.prog 53 #[.pointer (some ⟨g, 0, none⟩), .slice a n cap] w fun e w' => e = .returned (.tuple #[]) ∧ WP g B (l ++ vecsOf L n) w' ∧ Aft g B w w' := by
  have hB := hw.size.1
  rcases hr with h | ⟨b, off, rfl, h2, h3⟩
  · subst h
    cases a with
    | none =>
      go_enter Try.func53, Try.ntmps53
      go_wp2_with fail
      refine wp_loop_rounds 2 ?_
      rw [rounds_succ]
      go_wp2
      go_end0
      exact ⟨rfl, by rw [vecsOf, List.append_nil]; exact hw, Aft.refl _ _ _⟩
    | some ad =>
      go_enter Try.func53, Try.ntmps53
      go_wp2_with fail
      refine wp_loop_rounds 2 ?_
      rw [rounds_succ]
      go_wp2
      go_end0
      exact ⟨rfl, by rw [vecsOf, List.append_nil]; exact hw, Aft.refl _ _ _⟩
  · exact whues5 g B l b off cap n L w hw (fun W hA j hj => by
      have hlt := World.block_lt_of_cell? w _ (h3 j hj)
      exact (hA.cell (p := ⟨b, off + j, none⟩) h2 hlt (by show b ≠ g; omega)).trans (h3 j hj)) hn hl

theorem wfixs (g B : Nat) (l : List UInt8) (a : Option Addr) (cap n : Nat) (L : Nat → Int) (w : World) (hw : WP g B l w) (hr : RwP (fun b => b < B) 1 w a n L) (hn : n ≤ 5000) (hl : l.length ≤ 20000000) :
    Calls Try.prog 55 #[.pointer (some ⟨g, 0, none⟩), .slice a n cap] w fun e w' => e = .returned (.tuple #[]) ∧ WP g B (l ++ bts 5 L n) w' ∧ Aft g B w w' := by
  have h := fix_row g (WS g B w) l a cap (lst L n) w hw.use (wrow hr hw.size.1) (by rw [lst_length]; omega) (by omega)
  rw [lst_length, bts_lst] at h
  exact lift hw h

theorem whalfs (g B : Nat) (l : List UInt8) (a : Option Addr) (cap n : Nat) (L : Nat → Int) (w : World) (hw : WP g B l w) (hr : RwP (fun b => b < B) 1 w a n L) (hn : n ≤ 5000) (hl : l.length ≤ 20000000) :
    Calls Try.prog 52 #[.pointer (some ⟨g, 0, none⟩), .slice a n cap] w fun e w' => e = .returned (.tuple #[]) ∧ WP g B (l ++ bts 2 L n) w' ∧ Aft g B w w' := by
  have h := half_any g (WS g B w) l a cap (lst L n) w hw.use (wrow hr hw.size.1) (by rw [lst_length]; omega) (by rw [lst_length]; omega)
  rw [lst_length, bts_lst] at h
  exact lift hw h

set_option maxHeartbeats 4000000 in
set_option maxRecDepth 100000 in
theorem wsheet (g B : Nat) (l : List UInt8) (W H : Int) (al : Option Addr) (cl nl : Nat) (L : Nat → Int) (w : World) (hw : WP g B l w) (hl : l.length ≤ 1000000) (hr : RwP (fun b => b < B) 3 w al nl L) (hn : nl ≤ 5000) : Calls Try.prog 35 #[.agg #[.pointer (some ⟨g, 0, none⟩)], .agg #[.int .i64 W, .int .i64 H, .slice al nl cl]] w fun e' w' => e' = .returned (.tuple #[]) ∧ WP g B (l ++ sheetB W H nl L) w' ∧ Aft g B w w' := by
  have HPw := Lib.hid hw
  obtain ⟨hB, hg⟩ := hw.size
  clear hw
  have HR := Lib.hid hr
  clear hr
  go_enter Try.func35, Try.ntmps35
  go_upto_region 1 with fail
  have hR := Au.rows2 w (.cells #[.pointer (some ⟨g, 0, none⟩)] 82) (.cells #[.int .i64 W, .int .i64 H, .slice al nl cl] 35)
  have HUx := Ve.below_n2 w (.cells #[.pointer (some ⟨g, 0, none⟩)] 82) (.cells #[.int .i64 W, .int .i64 H, .slice al nl cl] 35)
  obtain ⟨y0, hy0⟩ : ∃ y0, (w.alloc (.cells #[.pointer (some ⟨g, 0, none⟩)] 82)).alloc (.cells #[.int .i64 W, .int .i64 H, .slice al nl cl] 35) = y0 := ⟨_, rfl⟩
  rw [hy0] at hR HUx ⊢
  clear hy0
  have HP0 := Lib.hid (HPw.out.new HUx)
  have hz0 := HUx.size
  have HU0 := Lib.hid (Aft.of (g := g) (base := B) HUx)
  clear HUx
  obtain ⟨hr0_0, hr0_1⟩ := hR
  have c0_0 := cell_of_row _ _ 0 _ _ _ hr0_0
  have c1_0 := cell_of_row _ _ 0 _ _ _ hr0_1
  have c1_1 := cell_of_row _ _ 1 _ _ _ hr0_1
  have c1_2 := cell_of_row _ _ 2 _ _ _ hr0_1
  simp at c0_0 c1_0 c1_1 c1_2
  go_wp2_with fail
  clear c0_0 c1_0 c1_1 c1_2
  have hb1 := Ve.below_n1 y0 (.cells #[.int .i64 W, .int .i64 H] 3)
  have hp1 := HP0.out.new hb1
  have hb1 := Aft.of (g := g) (base := B) hb1
  have hN := heap_alloc_last y0 (.cells #[.int .i64 W, .int .i64 H] 3)
  obtain ⟨y1, hy1⟩ : ∃ y, y0.alloc (.cells #[.int .i64 W, .int .i64 H] 3) = y := ⟨_, rfl⟩
  have hs1 : y1.heap.size = y0.heap.size + 1 := by rw [← hy1]; simp
  rw [hy1] at hb1 hN hp1 ⊢
  clear hy1
  have HP1 := Lib.hid hp1
  have hz1 := hb1.size
  have hl1_0 := lt_heap hr0_0
  have hl1_1 := lt_heap hr0_1
  have hr1_0 := hb1.other _ _ _ _ (by omega) (by decide) hr0_0
  have hr1_1 := hb1.other _ _ _ _ (by omega) (by decide) hr0_1
  have HU1 := Lib.hid (HU0.out.trans hb1)
  clear hr0_0 hr0_1 HU0
  have hr1_2 := hN
  clear hN
  refine (whalf g B (l) [W, H] (y0.heap.size) 2 _ _ _ HP1.out hr1_2 rfl (by decide) (by omega) (by simp) (by first | omega | (simp only [List.length_append, numsOf_length, bytesOf_length, List.length_cons, List.length_nil]; omega))).mono ?_
  rintro e y2 ⟨rfl, hp2, hb2⟩
  have HP2 := Lib.hid hp2
  have hz2 := hb2.size
  have hr2_0 := hb2.other _ _ _ _ (by omega) (by decide) hr1_0
  have hr2_1 := hb2.other _ _ _ _ (by omega) (by decide) hr1_1
  have hr2_2 := hb2.other _ _ _ _ (by omega) (by decide) hr1_2
  have HU2 := Lib.hid (HU1.out.trans hb2)
  clear hr1_0 hr1_1 hr1_2 HU1
  have c0_0 := cell_of_row _ _ 0 _ _ _ hr2_0
  have c1_0 := cell_of_row _ _ 0 _ _ _ hr2_1
  have c1_1 := cell_of_row _ _ 1 _ _ _ hr2_1
  have c1_2 := cell_of_row _ _ 2 _ _ _ hr2_1
  simp at c0_0 c1_0 c1_1 c1_2
  go_wp2_with fail
  refine (wh g B (l ++ numsOf 2 [W, H]) al cl nl L _ HP2.out (RwP.aft HR.out (by decide) HU2.out hB) hn (by simp only [List.length_append, numsOf_length, bytesOf_length, vecsOf_length, sheetB_length, bts_length, List.length_cons, List.length_nil]; omega)).mono ?_
  rintro e y3 ⟨rfl, hp3, hb3⟩
  have HP3 := Lib.hid hp3
  have hz3 := hb3.size
  clear c0_0 c1_0 c1_1 c1_2
  have hr3_0 := hb3.other _ _ _ _ (by omega) (by decide) hr2_0
  have hr3_1 := hb3.other _ _ _ _ (by omega) (by decide) hr2_1
  have hr3_2 := hb3.other _ _ _ _ (by omega) (by decide) hr2_2
  have HU3 := Lib.hid (HU2.out.trans hb3)
  clear hr2_0 hr2_1 hr2_2 HU2
  have HPZ := Lib.hid (show WP g B (l ++ sheetB W H nl L) y3 by have h := HP3.out; rw [List.append_assoc] at h; exact h)
  go_wp2
  go_end0
  exact ⟨rfl, HPZ.out, HU3.out⟩

set_option maxHeartbeats 8000000 in
set_option maxRecDepth 100000 in
theorem wfilm (g B : Nat) (l : List UInt8) (W H : Int) (al ad an ab ax af : Option Addr) (cl cd cn cb cx cf nl nd nn nb ns nf : Nat) (L D N Q S F : Nat → Int) (w : World) (hw : WP g B l w) (hl : l.length ≤ 1000000) (hl : RwP (fun b => b < B) 3 w al nl L) (bl : nl ≤ 5000) (hd : RwP (fun b => b < B) 1 w ad nd D) (bd : nd ≤ 5000) (hn : RwP (fun b => b < B) 3 w an nn N) (bn : nn ≤ 5000) (hb : RwP (fun b => b < B) 3 w ab nb Q) (bb : nb ≤ 5000) (hs : RwP (fun b => b < B) 1 w ax ns S) (bs : ns ≤ 5000) (hf : RwP (fun b => b < B) 1 w af nf F) (bf : nf ≤ 5000) : Calls Try.prog 37 #[.agg #[.pointer (some ⟨g, 0, none⟩)], .agg #[.int .i64 W, .int .i64 H, .slice al nl cl, .slice ad nd cd, .slice an nn cn, .slice ab nb cb, .slice ax ns cx, .slice af nf cf]] w fun e' w' => e' = .returned (.tuple #[]) ∧ WP g B (l ++ sheetB W H nl L ++ bts 5 D nd ++ vecsOf N nn ++ vecsOf Q nb ++ bts 2 S ns ++ bts 2 F nf) w' ∧ Aft g B w w' := by
  have HPw := Lib.hid hw
  obtain ⟨hB, hg⟩ := hw.size
  clear hw
  have HRl := Lib.hid hl
  clear hl
  have HRd := Lib.hid hd
  clear hd
  have HRn := Lib.hid hn
  clear hn
  have HRb := Lib.hid hb
  clear hb
  have HRs := Lib.hid hs
  clear hs
  have HRf := Lib.hid hf
  clear hf
  go_enter Try.func37, Try.ntmps37
  go_upto_region 1 with fail
  have hR := Au.rows2 w (.cells #[.pointer (some ⟨g, 0, none⟩)] 82) (.cells #[.int .i64 W, .int .i64 H, .slice al nl cl, .slice ad nd cd, .slice an nn cn, .slice ab nb cb, .slice ax ns cx, .slice af nf cf] 39)
  have HUx := Ve.below_n2 w (.cells #[.pointer (some ⟨g, 0, none⟩)] 82) (.cells #[.int .i64 W, .int .i64 H, .slice al nl cl, .slice ad nd cd, .slice an nn cn, .slice ab nb cb, .slice ax ns cx, .slice af nf cf] 39)
  obtain ⟨y0, hy0⟩ : ∃ y0, (w.alloc (.cells #[.pointer (some ⟨g, 0, none⟩)] 82)).alloc (.cells #[.int .i64 W, .int .i64 H, .slice al nl cl, .slice ad nd cd, .slice an nn cn, .slice ab nb cb, .slice ax ns cx, .slice af nf cf] 39) = y0 := ⟨_, rfl⟩
  rw [hy0] at hR HUx ⊢
  clear hy0
  have HP0 := Lib.hid (HPw.out.new HUx)
  have hz0 := HUx.size
  have HU0 := Lib.hid (Aft.of (g := g) (base := B) HUx)
  clear HUx
  obtain ⟨hr0_0, hr0_1⟩ := hR
  have c0_0 := cell_of_row _ _ 0 _ _ _ hr0_0
  have c1_0 := cell_of_row _ _ 0 _ _ _ hr0_1
  have c1_1 := cell_of_row _ _ 1 _ _ _ hr0_1
  have c1_2 := cell_of_row _ _ 2 _ _ _ hr0_1
  have c1_3 := cell_of_row _ _ 3 _ _ _ hr0_1
  have c1_4 := cell_of_row _ _ 4 _ _ _ hr0_1
  have c1_5 := cell_of_row _ _ 5 _ _ _ hr0_1
  have c1_6 := cell_of_row _ _ 6 _ _ _ hr0_1
  have c1_7 := cell_of_row _ _ 7 _ _ _ hr0_1
  simp at c0_0 c1_0 c1_1 c1_2 c1_3 c1_4 c1_5 c1_6 c1_7
  go_wp2_with fail
  refine (wsheet g B (l) W H al cl nl L _ HP0.out (by omega) (RwP.aft HRl.out (by decide) HU0.out hB) bl).mono ?_
  rintro e y1 ⟨rfl, hp1, hb1⟩
  have HP1 := Lib.hid hp1
  have hz1 := hb1.size
  clear c0_0 c1_0 c1_1 c1_2 c1_3 c1_4 c1_5 c1_6 c1_7
  have hr1_0 := hb1.other _ _ _ _ (by omega) (by decide) hr0_0
  have hr1_1 := hb1.other _ _ _ _ (by omega) (by decide) hr0_1
  have HU1 := Lib.hid (HU0.out.trans hb1)
  clear hr0_0 hr0_1 HU0
  have c0_0 := cell_of_row _ _ 0 _ _ _ hr1_0
  have c1_0 := cell_of_row _ _ 0 _ _ _ hr1_1
  have c1_1 := cell_of_row _ _ 1 _ _ _ hr1_1
  have c1_2 := cell_of_row _ _ 2 _ _ _ hr1_1
  have c1_3 := cell_of_row _ _ 3 _ _ _ hr1_1
  have c1_4 := cell_of_row _ _ 4 _ _ _ hr1_1
  have c1_5 := cell_of_row _ _ 5 _ _ _ hr1_1
  have c1_6 := cell_of_row _ _ 6 _ _ _ hr1_1
  have c1_7 := cell_of_row _ _ 7 _ _ _ hr1_1
  simp at c0_0 c1_0 c1_1 c1_2 c1_3 c1_4 c1_5 c1_6 c1_7
  go_wp2_with fail
  refine (wfixs g B (l ++ sheetB W H nl L) ad cd nd D _ HP1.out (RwP.aft HRd.out (by decide) HU1.out hB) bd (by simp only [List.length_append, numsOf_length, bytesOf_length, vecsOf_length, sheetB_length, bts_length, List.length_cons, List.length_nil]; omega)).mono ?_
  rintro e y2 ⟨rfl, hp2, hb2⟩
  have HP2 := Lib.hid hp2
  have hz2 := hb2.size
  clear c0_0 c1_0 c1_1 c1_2 c1_3 c1_4 c1_5 c1_6 c1_7
  have hr2_0 := hb2.other _ _ _ _ (by omega) (by decide) hr1_0
  have hr2_1 := hb2.other _ _ _ _ (by omega) (by decide) hr1_1
  have HU2 := Lib.hid (HU1.out.trans hb2)
  clear hr1_0 hr1_1 HU1
  have c0_0 := cell_of_row _ _ 0 _ _ _ hr2_0
  have c1_0 := cell_of_row _ _ 0 _ _ _ hr2_1
  have c1_1 := cell_of_row _ _ 1 _ _ _ hr2_1
  have c1_2 := cell_of_row _ _ 2 _ _ _ hr2_1
  have c1_3 := cell_of_row _ _ 3 _ _ _ hr2_1
  have c1_4 := cell_of_row _ _ 4 _ _ _ hr2_1
  have c1_5 := cell_of_row _ _ 5 _ _ _ hr2_1
  have c1_6 := cell_of_row _ _ 6 _ _ _ hr2_1
  have c1_7 := cell_of_row _ _ 7 _ _ _ hr2_1
  simp at c0_0 c1_0 c1_1 c1_2 c1_3 c1_4 c1_5 c1_6 c1_7
  go_wp2_with fail
  refine (wv g B (l ++ sheetB W H nl L ++ bts 5 D nd) an cn nn N _ HP2.out (RwP.aft HRn.out (by decide) HU2.out hB) bn (by simp only [List.length_append, numsOf_length, bytesOf_length, vecsOf_length, sheetB_length, bts_length, List.length_cons, List.length_nil]; omega)).mono ?_
  rintro e y3 ⟨rfl, hp3, hb3⟩
  have HP3 := Lib.hid hp3
  have hz3 := hb3.size
  clear c0_0 c1_0 c1_1 c1_2 c1_3 c1_4 c1_5 c1_6 c1_7
  have hr3_0 := hb3.other _ _ _ _ (by omega) (by decide) hr2_0
  have hr3_1 := hb3.other _ _ _ _ (by omega) (by decide) hr2_1
  have HU3 := Lib.hid (HU2.out.trans hb3)
  clear hr2_0 hr2_1 HU2
  have c0_0 := cell_of_row _ _ 0 _ _ _ hr3_0
  have c1_0 := cell_of_row _ _ 0 _ _ _ hr3_1
  have c1_1 := cell_of_row _ _ 1 _ _ _ hr3_1
  have c1_2 := cell_of_row _ _ 2 _ _ _ hr3_1
  have c1_3 := cell_of_row _ _ 3 _ _ _ hr3_1
  have c1_4 := cell_of_row _ _ 4 _ _ _ hr3_1
  have c1_5 := cell_of_row _ _ 5 _ _ _ hr3_1
  have c1_6 := cell_of_row _ _ 6 _ _ _ hr3_1
  have c1_7 := cell_of_row _ _ 7 _ _ _ hr3_1
  simp at c0_0 c1_0 c1_1 c1_2 c1_3 c1_4 c1_5 c1_6 c1_7
  go_wp2_with fail
  refine (wh g B (l ++ sheetB W H nl L ++ bts 5 D nd ++ vecsOf N nn) ab cb nb Q _ HP3.out (RwP.aft HRb.out (by decide) HU3.out hB) bb (by simp only [List.length_append, numsOf_length, bytesOf_length, vecsOf_length, sheetB_length, bts_length, List.length_cons, List.length_nil]; omega)).mono ?_
  rintro e y4 ⟨rfl, hp4, hb4⟩
  have HP4 := Lib.hid hp4
  have hz4 := hb4.size
  clear c0_0 c1_0 c1_1 c1_2 c1_3 c1_4 c1_5 c1_6 c1_7
  have hr4_0 := hb4.other _ _ _ _ (by omega) (by decide) hr3_0
  have hr4_1 := hb4.other _ _ _ _ (by omega) (by decide) hr3_1
  have HU4 := Lib.hid (HU3.out.trans hb4)
  clear hr3_0 hr3_1 HU3
  have c0_0 := cell_of_row _ _ 0 _ _ _ hr4_0
  have c1_0 := cell_of_row _ _ 0 _ _ _ hr4_1
  have c1_1 := cell_of_row _ _ 1 _ _ _ hr4_1
  have c1_2 := cell_of_row _ _ 2 _ _ _ hr4_1
  have c1_3 := cell_of_row _ _ 3 _ _ _ hr4_1
  have c1_4 := cell_of_row _ _ 4 _ _ _ hr4_1
  have c1_5 := cell_of_row _ _ 5 _ _ _ hr4_1
  have c1_6 := cell_of_row _ _ 6 _ _ _ hr4_1
  have c1_7 := cell_of_row _ _ 7 _ _ _ hr4_1
  simp at c0_0 c1_0 c1_1 c1_2 c1_3 c1_4 c1_5 c1_6 c1_7
  go_wp2_with fail
  refine (whalfs g B (l ++ sheetB W H nl L ++ bts 5 D nd ++ vecsOf N nn ++ vecsOf Q nb) ax cx ns S _ HP4.out (RwP.aft HRs.out (by decide) HU4.out hB) bs (by simp only [List.length_append, numsOf_length, bytesOf_length, vecsOf_length, sheetB_length, bts_length, List.length_cons, List.length_nil]; omega)).mono ?_
  rintro e y5 ⟨rfl, hp5, hb5⟩
  have HP5 := Lib.hid hp5
  have hz5 := hb5.size
  clear c0_0 c1_0 c1_1 c1_2 c1_3 c1_4 c1_5 c1_6 c1_7
  have hr5_0 := hb5.other _ _ _ _ (by omega) (by decide) hr4_0
  have hr5_1 := hb5.other _ _ _ _ (by omega) (by decide) hr4_1
  have HU5 := Lib.hid (HU4.out.trans hb5)
  clear hr4_0 hr4_1 HU4
  have c0_0 := cell_of_row _ _ 0 _ _ _ hr5_0
  have c1_0 := cell_of_row _ _ 0 _ _ _ hr5_1
  have c1_1 := cell_of_row _ _ 1 _ _ _ hr5_1
  have c1_2 := cell_of_row _ _ 2 _ _ _ hr5_1
  have c1_3 := cell_of_row _ _ 3 _ _ _ hr5_1
  have c1_4 := cell_of_row _ _ 4 _ _ _ hr5_1
  have c1_5 := cell_of_row _ _ 5 _ _ _ hr5_1
  have c1_6 := cell_of_row _ _ 6 _ _ _ hr5_1
  have c1_7 := cell_of_row _ _ 7 _ _ _ hr5_1
  simp at c0_0 c1_0 c1_1 c1_2 c1_3 c1_4 c1_5 c1_6 c1_7
  go_wp2_with fail
  refine (whalfs g B (l ++ sheetB W H nl L ++ bts 5 D nd ++ vecsOf N nn ++ vecsOf Q nb ++ bts 2 S ns) af cf nf F _ HP5.out (RwP.aft HRf.out (by decide) HU5.out hB) bf (by simp only [List.length_append, numsOf_length, bytesOf_length, vecsOf_length, sheetB_length, bts_length, List.length_cons, List.length_nil]; omega)).mono ?_
  rintro e y6 ⟨rfl, hp6, hb6⟩
  have HP6 := Lib.hid hp6
  have hz6 := hb6.size
  clear c0_0 c1_0 c1_1 c1_2 c1_3 c1_4 c1_5 c1_6 c1_7
  have hr6_0 := hb6.other _ _ _ _ (by omega) (by decide) hr5_0
  have hr6_1 := hb6.other _ _ _ _ (by omega) (by decide) hr5_1
  have HU6 := Lib.hid (HU5.out.trans hb6)
  clear hr5_0 hr5_1 HU5
  go_wp2
  go_end0
  exact ⟨rfl, HP6.out, HU6.out⟩

end Go.Proofs.Ytgkfoiekminfmaa.Fm
