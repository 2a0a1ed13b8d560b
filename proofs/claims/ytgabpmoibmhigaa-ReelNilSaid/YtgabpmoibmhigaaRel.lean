/- Layer 7: a nil writer takes nothing. -/
import Derived.Test.YtgabpmoibmhigaaRek
namespace Go.Proofs.Ytgabpmoibmhigaa.Re
open Go.RowKit Go.Proofs.Ytgabpmoibmhigaa Go.Proofs.Ytgabpmoibmhigaa.Rp

theorem nput_any (v : Value) (w : World) : Calls Try.prog 60 #[.pointer none, v] w fun e w' => e = .returned (.tuple #[]) ∧ w' = w := by
  go_enter Try.func60, Try.ntmps60
  go_wp2
  go_end0
  exact ⟨rfl, rfl⟩

theorem nnumber_any (n size : Nat) (hs : size ≤ 8) (w : World) : Calls Try.prog 59 #[.pointer none, .int .u64 n, .int .i64 size] w fun e w' => e = .returned (.tuple #[]) ∧ Below w.heap.size w w' := by
  go_enter Try.func59, Try.ntmps59
  go_wp2_with fail
  go_loopw [8] (fun i wr => ∃ k : Nat, k ≤ size ∧ i = .int .i64 k ∧ Below w.heap.size w wr) (fun i _ => size - (intOf i).toNat)
  case atStart => exact ⟨0, Nat.zero_le _, rfl, Below.refl _ _⟩
  case round =>
    obtain ⟨k, hk, rfl, hA⟩ := hrel
    by_cases hlt : k < size
    · have hlt' : (k : Int) < size := by omega
      have hsz := hA.size
      go_wp2_with fail
      refine (nput_any _ _).mono ?_
      rintro e w1 ⟨rfl, hw1⟩
      have hA2 : Below w.heap.size w w1 := by rw [hw1]; exact hA.alloc hsz _
      clear hw1
      go_wp2_with fail
      go_roundw
      case rel => exact ⟨k + 1, by omega, by go_num, hA2⟩
      case measure => simp [intOf]; omega
    · obtain rfl : k = size := by omega
      go_wp2
      go_end0
      exact ⟨rfl, hA⟩

theorem nnumbers_one (size : Nat) (hs : size ≤ 8) (b cap : Nat) (z : Int) (w : World) (hc : w.cell? ⟨b, 0, none⟩ = some (.int .i64 z)) :
    Calls Try.prog 48 #[.pointer none, .int .i64 size, .slice (some ⟨b, 0, none⟩) 1 cap] w fun e w' => e = .returned (.tuple #[]) ∧ Below w.heap.size w w' := by
  have hb := World.block_lt_of_cell? w _ hc
  have hb' : b < w.heap.size := hb
  clear hb
  obtain ⟨n, hn⟩ : ∃ n : Nat, n = u64 z := ⟨_, rfl⟩
  have hnz : IntKind.u64.wrap z = (n : Int) := by rw [hn, u64_wrap]
  clear hn
  go_enter Try.func48, Try.ntmps48
  go_wp2_with fail
  go_loopw [10] (fun i wr => ∃ k : Nat, k ≤ 1 ∧ i = .int .i64 k ∧ Below w.heap.size w wr) (fun i _ => 1 - (intOf i).toNat)
  case atStart => exact ⟨0, Nat.zero_le _, rfl, Below.refl _ _⟩
  case round =>
    obtain ⟨k, hk, rfl, hA⟩ := hrel
    by_cases hlt : k = 0
    · subst hlt
      have hck : wr.cell? ⟨b, 0, none⟩ = some (.int .i64 z) := (hA.cell (p := ⟨b, 0, none⟩) hb').trans hc
      have hsz := hA.size
      clear hc
      go_wp2_with fail
      refine (nnumber_any n size hs _).mono ?_
      rintro e w1 ⟨rfl, hb1⟩
      have hA2 : Below w.heap.size w w1 := hA.trans (hb1.mono hsz)
      go_wp2_with fail
      go_roundw
      case rel => exact ⟨1, by omega, by go_num, hA2⟩
      case measure => simp [intOf]
    · obtain rfl : k = 1 := by omega
      go_wp2
      go_end0
      exact ⟨rfl, hA⟩

theorem nbyte_any (b cap : Nat) (z : Int) (w : World) (hc : w.cell? ⟨b, 0, none⟩ = some (.int .i64 z)) :
    Calls Try.prog 31 #[.pointer none, .slice (some ⟨b, 0, none⟩) 1 cap] w fun e w' => e = .returned (.tuple #[]) ∧ Below w.heap.size w w' := by
  go_enter Try.func31, Try.ntmps31
  go_wp2_with fail
  refine (nnumbers_one 1 (by omega) b cap z _ hc).mono ?_
  rintro e w1 ⟨rfl, hb1⟩
  go_wp2_with fail
  go_end0
  exact ⟨rfl, hb1⟩
theorem nword_any (b cap : Nat) (z : Int) (w : World) (hc : w.cell? ⟨b, 0, none⟩ = some (.int .i64 z)) :
    Calls Try.prog 38 #[.pointer none, .slice (some ⟨b, 0, none⟩) 1 cap] w fun e w' => e = .returned (.tuple #[]) ∧ Below w.heap.size w w' := by
  go_enter Try.func38, Try.ntmps38
  go_wp2_with fail
  refine (nnumbers_one 4 (by omega) b cap z _ hc).mono ?_
  rintro e w1 ⟨rfl, hb1⟩
  go_wp2_with fail
  go_end0
  exact ⟨rfl, hb1⟩

theorem nfix_any (b cap : Nat) (w : World) (hc : w.cell? ⟨b, 0, none⟩ = some (.int .i64 1)) :
    Calls Try.prog 32 #[.pointer none, .slice (some ⟨b, 0, none⟩) 1 cap] w fun e w' => e = .returned (.tuple #[]) ∧ Below w.heap.size w w' := by
  have hb := World.block_lt_of_cell? w _ hc
  have hb' : b < w.heap.size := hb
  clear hb
  go_enter Try.func32, Try.ntmps32
  go_wp2_with fail
  go_loopw [8] (fun i wr => ∃ k : Nat, k ≤ 1 ∧ i = .int .i64 k ∧ Below w.heap.size w wr) (fun i _ => 1 - (intOf i).toNat)
  case atStart => exact ⟨0, Nat.zero_le _, rfl, Below.refl _ _⟩
  case round =>
    obtain ⟨k, hk, rfl, hA⟩ := hrel
    by_cases hlt : k = 0
    · subst hlt
      have hck : wr.cell? ⟨b, 0, none⟩ = some (.int .i64 1) := (hA.cell (p := ⟨b, 0, none⟩) hb').trans hc
      have hsz := hA.size
      clear hc
      go_wp2_with fail
      refine (nnumber_any 1 5 (by omega) _).mono ?_
      rintro e w1 ⟨rfl, hb1⟩
      have hA2 : Below w.heap.size w w1 := hA.trans (hb1.mono hsz)
      go_wp2_with fail
      go_roundw
      case rel => exact ⟨1, by omega, by go_num, hA2⟩
      case measure => simp [intOf]
    · obtain rfl : k = 1 := by omega
      go_wp2
      go_end0
      exact ⟨rfl, hA⟩

theorem nsum_any (cs : Array Value) (w : World) :
    Calls Try.prog 33 #[.pointer none, .agg cs] w fun e w' => e = .returned (.tuple #[]) ∧ Below w.heap.size w w' := by
  go_enter Try.func33, Try.ntmps33
  go_wp2_with fail
  refine (nput_any _ _).mono ?_
  rintro e w1 ⟨rfl, hw1⟩
  have hb : Below w.heap.size w w1 := by rw [hw1]; exact below_n1 _ _
  clear hw1
  go_wp2_with fail
  go_end0
  exact ⟨rfl, hb⟩

theorem nblob_any (a : Option Addr) (n c : Nat) (_hn : n ≤ 140737488355328) (w : World) :
    Calls Try.prog 34 #[.pointer none, .slice a n c] w fun e w' => e = .returned (.tuple #[]) ∧ Below w.heap.size w w' := by
  go_enter Try.func34, Try.ntmps34
  go_wp2_with fail
  refine (nword_any _ 1 (n : Int) _ (by go_simp)).mono ?_
  rintro e w1 ⟨rfl, hb1⟩
  have hb : Below w.heap.size w w1 := (below_n1 w _).trans (hb1.mono (by simp))
  go_wp2_with fail
  refine (nput_any _ _).mono ?_
  rintro e w2 ⟨rfl, hw2⟩
  have hb2 : Below w.heap.size w w2 := by rw [hw2]; exact hb
  clear hw2
  go_wp2_with fail
  go_end0
  exact ⟨rfl, hb2⟩

theorem nbytes_any (w : World) : Calls Try.prog 12 #[.pointer none] w fun e w' => e = .returned (.slice none 0 0) ∧ w' = w := by
  go_enter Try.func12, Try.ntmps12
  go_wp2
  go_ret
  exact ⟨rfl, rfl⟩

/-! ### a nil reader reads nothing -/
theorem nil_rp (g B : Nat) (w : World) : RP (.pointer none) g B ([], 2) w := .inl ⟨rfl, rfl⟩
theorem zbyte_any (g : Nat) (w : World) : Calls Try.prog 19 #[.pointer none] w fun e w' => e = .returned (.int .i64 0) ∧ Aft g w.heap.size w w' :=
  (rbyte_any _ g ([], 2) w (nil_rp g 0 w)).mono fun _ _ ⟨h1, _, h3⟩ => ⟨h1, h3⟩
theorem zfix_any (g : Nat) (w : World) : Calls Try.prog 23 #[.pointer none] w fun e w' => e = .returned (.int .i64 0) ∧ Aft g w.heap.size w w' :=
  (rfix_any _ g ([], 2) w (nil_rp g 0 w)).mono fun _ _ ⟨h1, _, h3⟩ => ⟨h1, h3⟩
theorem zsmall_any (g : Nat) (w : World) : Calls Try.prog 37 #[.pointer none] w fun e w' => e = .returned (.int .i64 0) ∧ Aft g w.heap.size w w' :=
  (rsmall_any _ g ([], 2) w (nil_rp g 0 w)).mono fun _ _ ⟨h1, _, h3⟩ => ⟨h1, h3⟩
theorem zvec_any (g : Nat) (w : World) (hg : g < w.heap.size) : Calls Try.prog 25 #[.pointer none] w fun e w' => e = .returned (V3 0 0 0) ∧ Aft g w.heap.size w w' :=
  (rvec_any _ g ([], 2) w (nil_rp g 0 w) hg (by omega)).mono fun _ _ ⟨h1, _, h3⟩ => ⟨h1, h3⟩
theorem zsum_any (g : Nat) (w : World) (hg : g < w.heap.size) : Calls Try.prog 28 #[.pointer none] w fun e w' => e = .returned (.agg Z32) ∧ Aft g w.heap.size w w' :=
  (rsum_any _ g ([], 2) w (nil_rp g 0 w) hg (by omega)).mono fun _ _ ⟨h1, _, h3⟩ => ⟨h1, h3⟩
theorem zblob_any (g : Nat) (w : World) : Calls Try.prog 29 #[.pointer none, .int .i64 9] w fun e w' => e = .returned (.slice none 0 0) ∧ Aft g w.heap.size w w' := by
  go_enter Try.func29, Try.ntmps29
  go_wp2_with fail
  refine (rnumber_any _ g ([], 2) 4 (by omega) _ (nil_rp g 0 _)).mono ?_
  rintro e w1 ⟨rfl, -, ha⟩
  have hz : ((numS ([], 2) 4).1 : Int) = 0 := by decide
  go_wp2_with fail
  refine (take_err _ g ([], 2) 0 _ (nil_rp g 0 _) (by decide)).mono ?_
  rintro e w2 ⟨rfl, hw2⟩
  have ha2 : Aft g w.heap.size w w2 := by rw [hw2]; exact ha
  clear hw2
  go_wp2_with fail
  refine (clone_nil _).mono ?_
  rintro e w3 ⟨rfl, hw3⟩
  have ha3 : Aft g w.heap.size w w3 := by rw [hw3]; exact ha2
  clear hw3
  go_wp2_with fail
  go_ret
  exact ⟨rfl, ha3⟩
theorem zleft_any (w : World) : Calls Try.prog 36 #[.pointer none] w fun e w' => e = .returned (.int .i64 0) ∧ w' = w :=
  (left_any _ 0 ([], 2) w (nil_rp 0 0 w)).mono fun _ _ ⟨h1, h3⟩ => ⟨h1, h3⟩
theorem zerr_any (w : World) : Calls Try.prog 30 #[.pointer none] w fun e w' => e = .returned (.int .i64 2) ∧ w' = w :=
  (err_any _ 0 ([], 2) w (nil_rp 0 0 w)).mono fun _ _ ⟨h1, h3⟩ => ⟨h1, h3⟩
theorem zend_any (g : Nat) (w : World) : Calls Try.prog 16 #[.pointer none] w fun e w' => e = .returned (.int .i64 2) ∧ Aft g w.heap.size w w' :=
  (end_any _ g ([], 2) w (nil_rp g 0 w)).mono fun _ _ ⟨h1, _, h3⟩ => ⟨h1, h3⟩
theorem zfail_any (g : Nat) (x : Int) (w : World) : Calls Try.prog 35 #[.pointer none, .int .i64 x] w fun e w' => e = .returned (.tuple #[]) ∧ Aft g w.heap.size w w' :=
  (fail_any _ g ([], 2) x w (nil_rp g 0 w)).mono fun _ _ ⟨h1, _, h3⟩ => ⟨h1, h3⟩

theorem eq_vec0 (w : World) : (binOp BinOp.eql 58 (V3 0 0 0) (V3 0 0 0)).run Try.prog w = .ok (.bool true) w := by kernel_rfl
theorem eq_sum0 (w : World) : (binOp BinOp.eql 65 (.agg Z32) (.agg Z32)).run Try.prog w = .ok (.bool true) w := by kernel_rfl
end Go.Proofs.Ytgabpmoibmhigaa.Re
