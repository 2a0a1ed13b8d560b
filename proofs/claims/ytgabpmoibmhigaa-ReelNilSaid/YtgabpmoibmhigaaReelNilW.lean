/- The walk of ReelNil: whatever the input, a nil writer takes nothing, a nil reader reads nothing; nothing that was there is written. -/
import Derived.Test.YtgabpmoibmhigaaRel
namespace Go.Proofs.Ytgabpmoibmhigaa.reelNilW
open Go.RowKit Go.Proofs.Ytgabpmoibmhigaa Go.Proofs.Ytgabpmoibmhigaa.Re

theorem aft_below {g : Nat} {w w1 w2 : World} (h : Below w.heap.size w w1) (hs : w.heap.size ≤ g) (ha : Aft g w1.heap.size w1 w2) : Below w.heap.size w w2 :=
  h.trans (ha.below hs h.size h.size)

set_option maxHeartbeats 4000000 in
set_option maxRecDepth 100000 in
theorem walk (n : Int) (a : Option Addr) (len cap : Nat) (l : List UInt8) (w : World) (_hl : len ≤ 140737488355328) (_hb : Bs w (.slice a len cap) l) :
    Calls Try.prog 6 #[.int .i64 n, .slice a len cap] w fun e w' => e = .returned (.bool true) ∧ Below w.heap.size w w' := by
  have k1 := eq_vec0
  have k2 := eq_sum0
  go_enter Try.func6, Try.ntmps6
  go_wp2_with fail
  refine (nbyte_any _ 1 n _ (by go_simp)).mono ?_
  rintro e w1 ⟨rfl, hb1⟩
  have b1 : Below w.heap.size w w1 := (below_n1 w _).trans (hb1.mono (by simp))
  have s1 : w.heap.size + 1 ≤ w1.heap.size := by have := hb1.size; simp at this; omega
  clear hb1
  go_wp2_with fail
  refine (nfix_any _ 1 _ (by go_simp)).mono ?_
  rintro e w2 ⟨rfl, hb2⟩
  have b2 : Below w.heap.size w w2 := b1.trans (((below_n1 w1 _).trans (hb2.mono (by simp))).mono b1.size)
  have s2 : w.heap.size + 1 ≤ w2.heap.size := by have := hb2.size; simp at this; omega
  clear hb2
  go_wp2_with fail
  refine (nsum_any _ _).mono ?_
  rintro e w3 ⟨rfl, hb3⟩
  have b3 : Below w.heap.size w w3 := b2.trans (hb3.mono b2.size)
  have s3 : w.heap.size + 1 ≤ w3.heap.size := by have := hb3.size; omega
  clear hb3
  go_wp2_with fail
  refine (nblob_any _ _ _ _hl _).mono ?_
  rintro e w4 ⟨rfl, hb4⟩
  have b4 : Below w.heap.size w w4 := b3.trans (hb4.mono b3.size)
  have s4 : w.heap.size + 1 ≤ w4.heap.size := by have := hb4.size; omega
  clear hb4
  go_wp2_with fail
  refine (zfail_any w.heap.size _ _).mono ?_
  rintro e w5 ⟨rfl, ha5⟩
  have b5 := aft_below b4 (Nat.le_refl _) ha5
  have s5 : w.heap.size + 1 ≤ w5.heap.size := by have := ha5.size; omega
  clear ha5
  go_wp2_with fail
  refine (awake_any _).mono ?_
  rintro e w6 ⟨rfl, hb6⟩
  have b6 : Below w.heap.size w w6 := b5.trans (hb6.mono b5.size)
  have s6 : w.heap.size + 1 ≤ w6.heap.size := by have := hb6.size; omega
  clear hb6
  go_wp2_with fail
  refine (nbytes_any _).mono ?_
  rintro e w7 ⟨rfl, h7⟩
  have b7 : Below w.heap.size w w7 := by rw [h7]; exact b6
  have s7 : w.heap.size + 1 ≤ w7.heap.size := by rw [h7]; exact s6
  clear h7
  go_wp2_with fail
  refine (zbyte_any w.heap.size _).mono ?_
  rintro e w8 ⟨rfl, ha8⟩
  have b8 := aft_below b7 (Nat.le_refl _) ha8
  have s8 : w.heap.size + 1 ≤ w8.heap.size := by have := ha8.size; omega
  clear ha8
  go_wp2_with fail
  refine (zfix_any w.heap.size _).mono ?_
  rintro e w9 ⟨rfl, ha9⟩
  have b9 := aft_below b8 (Nat.le_refl _) ha9
  have s9 : w.heap.size + 1 ≤ w9.heap.size := by have := ha9.size; omega
  clear ha9
  go_wp2_with fail
  refine (zvec_any w.heap.size _ (by omega)).mono ?_
  rintro e w10 ⟨rfl, ha10⟩
  have b10 := aft_below b9 (Nat.le_refl _) ha10
  have s10 : w.heap.size + 1 ≤ w10.heap.size := by have := ha10.size; omega
  clear ha10
  go_wp2_with fail
  refine (zsum_any w.heap.size _ (by omega)).mono ?_
  rintro e w11 ⟨rfl, ha11⟩
  have b11 := aft_below b10 (Nat.le_refl _) ha11
  have s11 : w.heap.size + 1 ≤ w11.heap.size := by have := ha11.size; omega
  clear ha11
  go_wp2_with fail
  refine (zblob_any w.heap.size _).mono ?_
  rintro e w12 ⟨rfl, ha12⟩
  have b12 := aft_below b11 (Nat.le_refl _) ha12
  clear ha12
  go_wp2_with fail
  refine (zleft_any _).mono ?_
  rintro e w13 ⟨rfl, h13⟩
  have b13 : Below w.heap.size w w13 := by rw [h13]; exact b12
  clear h13
  go_wp2_with fail
  refine (zerr_any _).mono ?_
  rintro e w14 ⟨rfl, h14⟩
  have b14 : Below w.heap.size w w14 := by rw [h14]; exact b13
  clear h14
  go_wp2_with fail
  refine (zend_any w.heap.size _).mono ?_
  rintro e w15 ⟨rfl, ha15⟩
  have b15 := aft_below b14 (Nat.le_refl _) ha15
  clear ha15
  go_wp2_with fail
  refine (zsmall_any w.heap.size _).mono ?_
  rintro e w16 ⟨rfl, ha16⟩
  have b16 := aft_below b15 (Nat.le_refl _) ha16
  clear ha16
  go_wp2_with fail
  go_ret
  exact ⟨rfl, b16⟩
end Go.Proofs.Ytgabpmoibmhigaa.reelNilW
