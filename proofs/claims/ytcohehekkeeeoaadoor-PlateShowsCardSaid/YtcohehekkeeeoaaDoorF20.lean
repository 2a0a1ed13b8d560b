/- Layer 21 (plate): heads, by the program and by the document. -/
import Derived.Test.YtcohehekkeeeoaaDoorF12
import Derived.Test.YtcohehekkeeeoaaDoorF15
import Derived.Deep.LoopGhost
import Derived.Laws.BytesArg
import Derived.Lib.ItoaWalk
import Derived.Lib.ItoaMem
import Derived.Shelf.Strconv.Itoa0
namespace Go.Proofs.YtcohehekkeeeoaaDoor.Pg
open Go Go.RowKit Go.Proofs.YtcohehekkeeeoaaDoor Go.Proofs.YtcohehekkeeeoaaDoor.Re Go.Proofs.YtcohehekkeeeoaaDoor.Au
set_option linter.unusedVariables false
set_option linter.unusedSimpArgs false

theorem ret_str {a b : ByteArray} (h : a = b) : Ending.returned (.string a) = .returned (.string b) := by rw [h]

theorem dec_small {u : Nat} (h : u < 10) : Lib.decDigits u = [UInt8.ofNat (48 + u)] := by rw [Lib.decDigits, dif_pos h]
theorem dec_big {u : Nat} (h : ¬ u < 10) : Lib.decDigits u = Lib.decDigits (u / 10) ++ [UInt8.ofNat (48 + u % 10)] := by rw [Lib.decDigits, dif_neg h]

theorem ten_step {q k : Nat} (hk : k ≤ 4) (hq : q < 10 ^ (5 - k)) (h9 : 9 < q) : k ≤ 3 ∧ q / 10 < 10 ^ (5 - (k + 1)) := by
  have hc : k = 0 ∨ k = 1 ∨ k = 2 ∨ k = 3 ∨ k = 4 := by omega
  rcases hc with rfl | rfl | rfl | rfl | rfl <;> (simp at hq ⊢; omega)

theorem byte_of (n : Nat) (h : n < 256) : ((UInt8.ofNat n).toNat : Int) = n := by
  rw [UInt8.toNat_ofNat_of_lt' (by simp [UInt8.size]; omega)]

/-- one byte as a text: the slice's conversion -/
theorem conv_one (c : UInt8) (x : Int) (hx : (c.toNat : Int) = x) (W : World) :
    (convert 56 9 (.slice (some ⟨W.heap.size, 0, none⟩) 1 1)).run Tryd.prog (W.alloc (.cells #[.int .u8 x] 5)) = .ok (.string ⟨#[c]⟩) (W.alloc (.cells #[.int .u8 x] 5)) := by
  refine run_convert_bytes_back (P := Tryd.prog) _ 56 9 5 ⟨W.heap.size, 0, none⟩ 1 [c] Tryd.underlying56 Tryd.underlying5 Tryd.underlying9 (fun j hj => ?_)
  match j, hj with
  | 0, _ => simp [Addr.add, go_sem, hx]

theorem cat_one (c : UInt8) (l : List UInt8) : (⟨#[c]⟩ : ByteArray) ++ ⟨l.toArray⟩ = ⟨(c :: l).toArray⟩ := by
  apply ByteArray.ext
  simp

set_option maxHeartbeats 1000000 in
set_option maxRecDepth 100000 in
theorem rdecimal_any (n : Nat) (hn : n < 100000) (w : World) : Calls Tryd.prog 71 #[.int .u64 n] w fun e w' => e = .returned (.string ⟨(Lib.decDigits n).toArray⟩) ∧ Below w.heap.size w w' := by
  go_enter Tryd.func71, Tryd.ntmps71
  go_wp2
  go_loopw [0, 3] (fun p s wr => ∃ (q : Nat) (l : List UInt8), p = .int .u64 q ∧ s = .string ⟨l.toArray⟩ ∧ Hid (Lib.decDigits n = Lib.decDigits q ++ l) ∧ l.length ≤ 4 ∧ Hid (q < 10 ^ (5 - l.length)) ∧ q < 100000 ∧ Below w.heap.size w wr) (fun p _ _ => (intOf p).toNat)
  case atStart => exact ⟨n, [], rfl, rfl, Lib.hid (by simp), by simp, Lib.hid (by simpa using hn), hn, Below.refl _ _⟩
  case round =>
    obtain ⟨q, l, rfl, rfl, HD, hl, HQ, hq, hnx⟩ := hrel
    by_cases h9 : 9 < q
    · have h9' : (9 : Int) < q := by omega
      obtain ⟨hl3, hq2⟩ := ten_step hl HQ.out h9
      have HQ2 := Lib.hid hq2
      clear hq2
      obtain ⟨c, hc⟩ : ∃ c : UInt8, c = UInt8.ofNat (48 + q % 10) := ⟨_, rfl⟩
      have hcv := conv_one c (48 + (q : Int) % 10) (by rw [hc, byte_of _ (by omega)]; omega) wr
      have HN := Lib.hid (show Lib.decDigits n = Lib.decDigits (q / 10) ++ (c :: l) by rw [HD.out, dec_big (by omega : ¬ q < 10), hc]; simp)
      have HC := Lib.hid (cat_one c l)
      clear hc
      go_wp2
      go_roundw
      case rel => exact ⟨q / 10, c :: l, by go_num, by rw [← HC.out], HN, by simp; omega, by simpa using HQ2, by omega, hnx.alloc hnx.size _⟩
      case measure => simp [intOf]; omega
    · obtain ⟨c, hc⟩ : ∃ c : UInt8, c = UInt8.ofNat (48 + q) := ⟨_, rfl⟩
      have hcv := conv_one c (48 + (q : Int)) (by rw [hc, byte_of _ (by omega)]; omega) wr
      have HN := Lib.hid (show c :: l = Lib.decDigits n by rw [HD.out, dec_small (by omega : q < 10), hc]; simp)
      have HC := Lib.hid (cat_one c l)
      clear hc
      go_wp2
      go_ret
      exact ⟨ret_str (by rw [← HN.out, ← HC.out]), hnx.alloc hnx.size _⟩

theorem decimal_any (x : Int) (n : Nat) (hx : x = n) (hn : n < 100) (w : World) : Calls Tryd.prog 71 #[.int .u64 x] w fun e w' => e = .returned (.string ⟨(dec n).toArray⟩) ∧ Below w.heap.size w w' := by
  subst hx
  have h := rdecimal_any n (by omega) w
  rw [dec_is hn] at h
  exact h

theorem head_cat (w h : Nat) : (((({ data := #[80, 54, 10] } : ByteArray) ++ ⟨(dec w).toArray⟩) ++ { data := #[32] }) ++ ⟨(dec h).toArray⟩) ++ { data := #[10, 50, 53, 53, 10] } = ⟨(headL w h).toArray⟩ := by
  apply ByteArray.ext
  simp [headL]

set_option maxHeartbeats 2000000 in
set_option maxRecDepth 100000 in
theorem rhead_any (x y : Int) (n m : Nat) (hx : x = n) (hy : y = m) (h1 : 1 ≤ n) (h2 : n ≤ 64) (h3 : 1 ≤ m) (h4 : m ≤ 64) (w : World) : Calls Tryd.prog 53 #[.int .i64 x, .int .i64 y] w fun e w' => ∃ g c, e = .returned (.slice (some ⟨g, 0, none⟩) (headL n m).length c) ∧ OwE w' w.heap.size (.slice (some ⟨g, 0, none⟩) (headL n m).length c) (headL n m).length (vals (headL n m)) ∧ Below w.heap.size w w' := by
  have HX := Lib.hid hx
  have HY := Lib.hid hy
  have hx1 : 0 ≤ x := by omega
  have hx2 : x ≤ 64 := by omega
  have hy1 : 0 ≤ y := by omega
  have hy2 : y ≤ 64 := by omega
  have hlen := head_len n m
  have hln := (dec_len (n := n)).2
  have hlm := (dec_len (n := m)).2
  clear hx hy
  go_enter Tryd.func53, Tryd.ntmps53
  go_wp2_with fail
  refine (decimal_any x n HX.out (by omega) _).mono ?_
  rintro e y1 ⟨rfl, hb1⟩
  go_wp2_with fail
  refine (decimal_any y m HY.out (by omega) _).mono ?_
  rintro e y2 ⟨rfl, hb2⟩
  obtain ⟨c, y3, hcv, hown, hb3⟩ := conv_str (headL n m) y2 (by omega)
  have HO := Lib.hid hown
  have hb := hb1.trans (hb2.mono hb1.size)
  have HB := Lib.hid (hb.trans (hb3.mono hb.size))
  have HG := Lib.hid hb.size
  clear hown hb3 hb1 hb2 hb
  rw [← head_cat] at hcv
  obtain ⟨L, hL⟩ : ∃ L, L = (headL n m).length := ⟨_, rfl⟩
  rw [← hL] at hcv
  have HL := Lib.hid hL
  clear hL hlen
  go_wp2
  go_ret
  refine ⟨y2.heap.size, c, ?_, HO.out.mono HG.out, HB.out⟩
  rw [← HL.out]
  rfl

theorem strN_ok (x : List UInt8) (w : World) : True := trivial

theorem ba_is {X : ByteArray} {l : List UInt8} (h : X.data.toList = l) : X = ⟨l.toArray⟩ := by
  apply ByteArray.ext
  apply Array.ext'
  simpa using h

set_option maxHeartbeats 2000000 in
set_option maxRecDepth 100000 in
theorem small_nat (i : Nat) (h : i < 100) (w : World) : Calls Tryd.prog 80 #[.int .i64 i] w fun e w' => e = .returned (.string ⟨(Lib.decDigits i).toArray⟩) ∧ w = w' := by
  go_enter Tryd.func80, Tryd.ntmps80
  go_name_bytes_deep 45 SM hSM
  have eSM : SM = Lib.smalls := by rw [← hSM]; decide +kernel
  subst eSM
  clear hSM
  go_name_bytes_deep 30 DG hDG
  have eDG : DG = Lib.digits36 := by rw [← hDG]; decide +kernel
  subst eDG
  clear hDG
  by_cases h10 : i < 10
  · have hsl : ∀ w, (Instr.slice 9 (.string Lib.digits36) (some (.int .i64 (i : Int))) (some (.int .i64 ((i : Int) + 1))) none).run Tryd.prog w = .ok (.string (Lib.digits36.extract i (i + 1))) w := fun w => by
      rw [run_slice_string w 9 Lib.digits36 .i64 .i64 _ _ Tryd.underlying9 (by omega) (by omega) (by rw [Lib.digits36_size]; omega), show ((i : Int)).toNat = i by omega, show ((i : Int) + 1).toNat = i + 1 by omega]
    go_wp2
    go_ret
    refine ⟨?_, rfl⟩
    show Ending.returned (Value.string (Lib.digits36.extract i (i + 1))) = _
    rw [ba_is (X := Lib.digits36.extract i (i + 1)) (l := Lib.decDigits i) (by rw [Lib.extract_data]; exact Lib.digits36_piece h10)]
  · have hsl : ∀ w, (Instr.slice 9 (.string Lib.smalls) (some (.int .i64 ((i : Int) * 2))) (some (.int .i64 ((i : Int) * 2 + 2))) none).run Tryd.prog w = .ok (.string (Lib.smalls.extract (i * 2) (i * 2 + 2))) w := fun w => by
      rw [run_slice_string w 9 Lib.smalls .i64 .i64 _ _ Tryd.underlying9 (by omega) (by omega) (by rw [Lib.smalls_size]; omega), show ((i : Int) * 2).toNat = i * 2 by omega, show ((i : Int) * 2 + 2).toNat = i * 2 + 2 by omega]
    go_wp2
    go_ret
    refine ⟨?_, rfl⟩
    show Ending.returned (Value.string (Lib.smalls.extract (i * 2) (i * 2 + 2))) = _
    rw [ba_is (X := Lib.smalls.extract (i * 2) (i * 2 + 2)) (l := Lib.decDigits i) (by rw [Lib.extract_data]; exact Lib.smalls_piece h10 h)]

theorem small_any (x : Int) (n : Nat) (hx : x = n) (hn : n < 100) (w : World) : Calls Tryd.prog 80 #[.int .i64 x] w fun e w' => e = .returned (.string ⟨(dec n).toArray⟩) ∧ w = w' := by
  subst hx
  have h := small_nat n hn w
  rw [dec_is hn] at h
  exact h


end Go.Proofs.YtcohehekkeeeoaaDoor.Pg
