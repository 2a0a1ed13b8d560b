/- The contracts of the document's own texts: a number's digits, and a number in decimal. -/
import Derived.Test.YtcgafhpbcdmigaaDoorWt
namespace Go.Proofs.YtcgafhpbcdmigaaDoor.Wa
open Go.RowKit Go.Proofs.YtcgafhpbcdmigaaDoor

theorem dec_small {u : Nat} (h : u < 10) : Lib.decDigits u = [UInt8.ofNat (48 + u)] := by rw [Lib.decDigits, dif_pos h]
theorem dec_big {u : Nat} (h : ¬ u < 10) : Lib.decDigits u = Lib.decDigits (u / 10) ++ [UInt8.ofNat (48 + u % 10)] := by rw [Lib.decDigits, dif_neg h]

theorem ten_step {q k : Nat} (hk : k ≤ 4) (hq : q < 10 ^ (5 - k)) (h9 : 9 < q) : k ≤ 3 ∧ q / 10 < 10 ^ (5 - (k + 1)) := by
  have hc : k = 0 ∨ k = 1 ∨ k = 2 ∨ k = 3 ∨ k = 4 := by omega
  rcases hc with rfl | rfl | rfl | rfl | rfl <;> (simp at hq ⊢; omega)

theorem byte_of (n : Nat) (h : n < 256) : ((UInt8.ofNat n).toNat : Int) = n := by
  rw [UInt8.toNat_ofNat_of_lt' (by simp [UInt8.size]; omega)]

/-- one byte as a text: the slice's conversion -/
theorem conv_one (c : UInt8) (x : Int) (hx : (c.toNat : Int) = x) (W : World) :
    (convert 53 9 (.slice (some ⟨W.heap.size, 0, none⟩) 1 1)).run Tryd.prog (W.alloc (.cells #[.int .u8 x] 5)) = .ok (.string ⟨#[c]⟩) (W.alloc (.cells #[.int .u8 x] 5)) := by
  refine run_convert_bytes_back (P := Tryd.prog) _ 53 9 5 ⟨W.heap.size, 0, none⟩ 1 [c] Tryd.underlying53 Tryd.underlying5 Tryd.underlying9 (fun j hj => ?_)
  match j, hj with
  | 0, _ => simp [Addr.add, go_sem, hx]

theorem cat_one (c : UInt8) (l : List UInt8) : (⟨#[c]⟩ : ByteArray) ++ ⟨l.toArray⟩ = ⟨(c :: l).toArray⟩ := by
  apply ByteArray.ext
  simp

set_option maxHeartbeats 1000000 in
set_option maxRecDepth 100000 in
theorem rdecimal_any (n : Nat) (hn : n < 100000) (w : World) : Calls Tryd.prog 20 #[.int .u64 n] w fun e w' => e = .returned (.string ⟨(Lib.decDigits n).toArray⟩) ∧ Below w.heap.size w w' := by
  go_enter Tryd.func20, Tryd.ntmps20
  go_wp2
  go_loopw [0, 3] (fun p s wr => ∃ (q : Nat) (l : List UInt8), p = .int .u64 q ∧ s = .string ⟨l.toArray⟩ ∧ Hid (Lib.decDigits n = Lib.decDigits q ++ l) ∧ l.length ≤ 4 ∧ Hid (q < 10 ^ (5 - l.length)) ∧ q < 100000 ∧ Below w.heap.size w wr) (fun p _ _ => (intOf p).toNat)
  case atStart => exact ⟨n, [], rfl, rfl, Lib.hid (by simp), by simp, Lib.hid (by simpa using hn), hn, Below.refl _ _⟩
  case round =>
    obtain ⟨q, l, rfl, rfl, HD, hl, HQ, hq, hnx⟩ := hrel
    by_cases h9 : 9 < q
    · have h9' : (9 : Int) < q := by omega
      obtain ⟨hl3, hq2⟩ := ten_step hl HQ.out h9
      have HQ2 := Lib.hid hq2
      clear hq2
      obtain ⟨c, hc⟩ : ∃ c : UInt8, c = UInt8.ofNat (48 + q % 10) := ⟨_, rfl⟩
      have hcv := conv_one c (48 + (q : Int) % 10) (by rw [hc, byte_of _ (by omega)]; omega) wr
      have HN := Lib.hid (show Lib.decDigits n = Lib.decDigits (q / 10) ++ (c :: l) by rw [HD.out, dec_big (by omega : ¬ q < 10), hc]; simp)
      have HC := Lib.hid (cat_one c l)
      clear hc
      go_wp2
      go_roundw
      case rel => exact ⟨q / 10, c :: l, by go_num, by rw [← HC.out], HN, by simp; omega, by simpa using HQ2, by omega, hnx.alloc hnx.size _⟩
      case measure => simp [intOf]; omega
    · obtain ⟨c, hc⟩ : ∃ c : UInt8, c = UInt8.ofNat (48 + q) := ⟨_, rfl⟩
      have hcv := conv_one c (48 + (q : Int)) (by rw [hc, byte_of _ (by omega)]; omega) wr
      have HN := Lib.hid (show c :: l = Lib.decDigits n by rw [HD.out, dec_small (by omega : q < 10), hc]; simp)
      have HC := Lib.hid (cat_one c l)
      clear hc
      go_wp2
      go_ret
      exact ⟨ret_cat (by rw [← HN.out, ← HC.out]), hnx.alloc hnx.size _⟩
end Go.Proofs.YtcgafhpbcdmigaaDoor.Wa
