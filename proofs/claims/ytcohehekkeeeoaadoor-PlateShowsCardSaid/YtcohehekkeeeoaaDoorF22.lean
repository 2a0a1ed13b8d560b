/- Layer 21 (plate): what is read off a file's head, by the program. -/
import Derived.Test.YtcohehekkeeeoaaDoorF21
namespace Go.Proofs.YtcohehekkeeeoaaDoor.Pg
open Go Go.RowKit Go.Proofs.YtcohehekkeeeoaaDoor Go.Proofs.YtcohehekkeeeoaaDoor.Re Go.Proofs.YtcohehekkeeeoaaDoor.Au
set_option linter.unusedVariables false
set_option linter.unusedSimpArgs false

theorem str_inj {l m : List UInt8} (h : (⟨l.toArray⟩ : ByteArray) = ⟨m.toArray⟩) : l = m := by
  have := congrArg (fun b : ByteArray => b.data.toList) h
  simpa using this

theorem lst_is (l : List UInt8) : (⟨l.toArray⟩ : ByteArray).toList = l := by
  exact ByteArray.toList_mk l

theorem str_ne {l m : List UInt8} (h : l ≠ m) : (⟨l.toArray⟩ : ByteArray) ≠ ⟨m.toArray⟩ := fun e => h (str_inj e)

set_option maxHeartbeats 2000000 in
set_option maxRecDepth 100000 in
theorem without_short (a : Option Addr) (n c : Nat) (t : List UInt8) (k : Nat) (w : World) (hk : k = t.length) (h : n < k) (hb : k ≤ 100) : Calls Tryd.prog 54 #[.slice a n c, .string ⟨t.toArray⟩] w fun e w' => e = .returned (.tuple #[.slice none 0 0, .bool false]) ∧ w = w' := by
  have HK := Lib.hid hk
  have hsz : (⟨t.toArray⟩ : ByteArray).size = k := by rw [str_size, HK.out]
  obtain ⟨T, hT⟩ : ∃ T : ByteArray, T = ⟨t.toArray⟩ := ⟨_, rfl⟩
  rw [← hT] at hsz ⊢
  clear hT hk
  go_enter Tryd.func54, Tryd.ntmps54
  go_wp2
  go_ret2
  exact ⟨rfl, rfl⟩

set_option maxHeartbeats 2000000 in
set_option maxRecDepth 100000 in
theorem without_no (a : Option Addr) (n c : Nat) (l t : List UInt8) (k : Nat) (w : World) (hl : BA w a n c l) (hk : k = t.length) (h : k ≤ n) (h0 : 0 < k) (hb : k ≤ 100) (hn : n ≤ 140737488351232) (hne : l.take k ≠ t) : Calls Tryd.prog 54 #[.slice a n c, .string ⟨t.toArray⟩] w fun e w' => e = .returned (.tuple #[.slice none 0 0, .bool false]) ∧ w = w' := by
  have HK := Lib.hid hk
  have hsz : (⟨t.toArray⟩ : ByteArray).size = k := by rw [str_size, HK.out]
  have hcv := (hl.take h).conv (fun e => by have := congrArg List.length e; rw [List.length_take, ← hl.1, Nat.min_eq_left h] at this; simp at this; omega)
  obtain ⟨T, hT⟩ : ∃ T : ByteArray, T = ⟨t.toArray⟩ := ⟨_, rfl⟩
  obtain ⟨S, hS⟩ : ∃ S : ByteArray, S = ⟨(l.take k).toArray⟩ := ⟨_, rfl⟩
  have hST : S ≠ T := by rw [hS, hT]; exact str_ne hne
  rw [← hT] at hsz ⊢
  rw [← hS] at hcv
  have hkc : k ≤ c := by have := hl.2.1; omega
  have hd : (S.toList == T.toList) = false := by
    simp only [beq_eq_false_iff_ne, ne_eq]
    exact fun e => hST (by rw [hS, hT] at e ⊢; rw [lst_is, lst_is] at e; rw [e])
  clear hT hS hk hne hl
  go_enter Tryd.func54, Tryd.ntmps54
  go_wp2
  go_ret2
  exact ⟨rfl, rfl⟩

set_option maxHeartbeats 2000000 in
set_option maxRecDepth 100000 in
theorem without_yes (a : Option Addr) (n c : Nat) (l t : List UInt8) (k : Nat) (w : World) (hl : BA w a n c l) (hk : k = t.length) (h : k ≤ n) (h0 : 0 < k) (hb : k ≤ 100) (hn : n ≤ 140737488351232) (he : l.take k = t) : Calls Tryd.prog 54 #[.slice a n c, .string ⟨t.toArray⟩] w fun e w' => (∃ a', e = .returned (.tuple #[.slice a' (n - k) (c - k), .bool true]) ∧ BA w a' (n - k) (c - k) (l.drop k)) ∧ w = w' := by
  have HK := Lib.hid hk
  have hsz : (⟨t.toArray⟩ : ByteArray).size = k := by rw [str_size, HK.out]
  have hcv := (hl.take h).conv (fun e => by have := congrArg List.length e; rw [List.length_take, ← hl.1, Nat.min_eq_left h] at this; simp at this; omega)
  rw [he] at hcv
  obtain ⟨T, hT⟩ : ∃ T : ByteArray, T = ⟨t.toArray⟩ := ⟨_, rfl⟩
  rw [← hT] at hsz hcv ⊢
  have hkc : k ≤ c := by have := hl.2.1; omega
  have hd0 := hl.drop h
  clear hT hk he hl
  by_cases hck : c = k
  · rw [if_pos hck] at hd0
    subst hck
    have HD := Lib.hid hd0
    clear hd0
    go_enter Tryd.func54, Tryd.ntmps54
    go_wp2
    go_ret2
    exact ⟨⟨_, by simp, HD.out⟩, rfl⟩
  · rw [if_neg hck] at hd0
    have HD := Lib.hid hd0
    clear hd0
    go_enter Tryd.func54, Tryd.ntmps54
    go_wp2
    go_ret2
    exact ⟨⟨_, rfl, HD.out⟩, rfl⟩

theorem drawnB {B : Nat} {w wr : World} (h : Below B w wr) (k : Nat) : Below B w (wr.drewN k) := ⟨h.os, h.tape, h.output, h.size, h.block⟩

set_option maxHeartbeats 8000000 in
set_option maxRecDepth 100000 in
theorem side_any (a : Option Addr) (n c : Nat) (l : List UInt8) (e : UInt8) (eI : Int) (w : World) (hl : BA w a n c l) (heI : eI = (e.toNat : Int)) (hn : n ≤ 140737488351232) : Calls Tryd.prog 72 #[.slice a n c, .int .u8 eI] w fun e' w' => (∀ m r, sideR 0 0 l e = some (m, r) → ∃ a' n' c', e' = .returned (.tuple #[.int .i64 m, .slice a' n' c', .bool true]) ∧ ∀ u, BA u a n c l → BA u a' n' c' r) ∧ (sideR 0 0 l e = none → e' = .returned (.tuple #[.int .i64 0, .slice none 0 0, .bool false])) ∧ Below w.heap.size w w' := by
  have HL := Lib.hid hl
  have HE := Lib.hid heI
  have hnc := hl.2.1
  clear hl heI
  go_enter Tryd.func72, Tryd.ntmps72
  go_upto_region 3 with fail
  go_loopw [7, 12] (fun v i wr => ∃ (k m : Nat), k ≤ 2 ∧ k ≤ n ∧ m ≤ 99 ∧ (k = 0 → m = 0) ∧ (k = 1 → m ≤ 9) ∧ v = .int .i64 m ∧ i = .int .i64 k ∧ Hid (sideR 0 0 l e = sideR k m (l.drop k) e) ∧ wr = w) (fun _ i _ => n - (intOf i).toNat)
  case atStart => exact ⟨0, 0, by omega, by omega, by omega, fun _ => rfl, fun h => by omega, rfl, rfl, Lib.hid (by simp), rfl⟩
  case round =>
    obtain ⟨k, m, hk2, hkn, hm, hm0, hm1, rfl, rfl, HR, rfl⟩ := hrel
    by_cases hlt : k < n
    · obtain ⟨ad, ha, hcell⟩ := HL.out.byte hlt
      subst ha
      obtain ⟨u, hu⟩ : ∃ u, u = l.getD k 0 := ⟨_, rfl⟩
      rw [← hu] at hcell
      have HDK := Lib.hid (show l.drop k = u :: l.drop (k + 1) by
        have hk : k < l.length := by have := HL.out.1; omega
        rw [List.drop_eq_getElem_cons hk, hu]
        simp [List.getD, hk])
      obtain ⟨cI, hcI⟩ : ∃ cI : Int, cI = (u.toNat : Int) := ⟨_, rfl⟩
      rw [← hcI] at hcell
      have hc0 : 0 ≤ cI := by omega
      have hc1 : cI < 256 := by have := u.toNat_lt; omega
      have HC := Lib.hid hcI
      clear hu hcI
      rcases (show k = 0 ∨ k = 1 ∨ k = 2 by omega) with rfl | rfl | rfl
      · obtain rfl : m = 0 := hm0 rfl
        have hlt' : (0 : Int) < n := by omega
        have HX := Lib.hid (show ¬ (u = e ∧ 0 < 0) by omega)
        have hcell0 : wr.cell? ad = some (Value.int IntKind.u8 cI) := by simpa [Addr.add] using hcell
        clear hm0 hm1 hcell hm
        by_cases hce : cI = eI
        · subst hce
          by_cases hc48 : cI < 48
          · have HN := Lib.hid (show sideR 0 0 l e = none by rw [HR.out, HDK.out, sideR, if_neg HX.out, if_pos (by have := HC.out; omega)])
            clear HR
            go_wp2
            go_ret3
            exact ⟨fun m' r' h => (by rw [HN.out] at h; cases h), fun _ => rfl, Below.refl _ _⟩
          by_cases hc57 : 57 < cI
          · have HN := Lib.hid (show sideR 0 0 l e = none by rw [HR.out, HDK.out, sideR, if_neg HX.out, if_pos (by have := HC.out; omega)])
            clear HR
            go_wp2
            go_ret3
            exact ⟨fun m' r' h => (by rw [HN.out] at h; cases h), fun _ => rfl, Below.refl _ _⟩
          by_cases hcz : cI = 48
          · have HN := Lib.hid (show sideR 0 0 l e = none by rw [HR.out, HDK.out, sideR, if_neg HX.out, if_pos (by have := HC.out; omega)])
            clear HR
            go_wp2
            go_ret3
            exact ⟨fun m' r' h => (by rw [HN.out] at h; cases h), fun _ => rfl, Below.refl _ _⟩
          obtain ⟨m2, hm2⟩ : ∃ m2, m2 = 10 * 0 + (u.toNat - 48) := ⟨_, rfl⟩
          have HN := Lib.hid (show sideR 0 0 l e = sideR (0 + 1) m2 (l.drop (0 + 1)) e by rw [HR.out, HDK.out, sideR, if_neg HX.out, if_neg (by have := HC.out; omega), hm2])
          have hmi : (m2 : Int) = 10 * (0 : Int) + (cI - 48) := by have := HC.out; omega
          have HM := Lib.hid hmi
          have hmb : m2 ≤ 9 := by have := HC.out; omega
          clear HR hm2 hmi
          go_wp2
          go_roundw
          case rel => exact ⟨0 + 1, m2, by omega, by omega, by omega, fun h => by omega, fun h => by omega, by have := HM.out; go_num, by go_num, HN, by trivial⟩
          case measure => simp [intOf]; omega
        · have hX2 : True := trivial
          by_cases hc48 : cI < 48
          · have HN := Lib.hid (show sideR 0 0 l e = none by rw [HR.out, HDK.out, sideR, if_neg HX.out, if_pos (by have := HC.out; omega)])
            clear HR
            go_wp2
            go_ret3
            exact ⟨fun m' r' h => (by rw [HN.out] at h; cases h), fun _ => rfl, Below.refl _ _⟩
          by_cases hc57 : 57 < cI
          · have HN := Lib.hid (show sideR 0 0 l e = none by rw [HR.out, HDK.out, sideR, if_neg HX.out, if_pos (by have := HC.out; omega)])
            clear HR
            go_wp2
            go_ret3
            exact ⟨fun m' r' h => (by rw [HN.out] at h; cases h), fun _ => rfl, Below.refl _ _⟩
          by_cases hcz : cI = 48
          · have HN := Lib.hid (show sideR 0 0 l e = none by rw [HR.out, HDK.out, sideR, if_neg HX.out, if_pos (by have := HC.out; omega)])
            clear HR
            go_wp2
            go_ret3
            exact ⟨fun m' r' h => (by rw [HN.out] at h; cases h), fun _ => rfl, Below.refl _ _⟩
          obtain ⟨m2, hm2⟩ : ∃ m2, m2 = 10 * 0 + (u.toNat - 48) := ⟨_, rfl⟩
          have HN := Lib.hid (show sideR 0 0 l e = sideR (0 + 1) m2 (l.drop (0 + 1)) e by rw [HR.out, HDK.out, sideR, if_neg HX.out, if_neg (by have := HC.out; omega), hm2])
          have hmi : (m2 : Int) = 10 * (0 : Int) + (cI - 48) := by have := HC.out; omega
          have HM := Lib.hid hmi
          have hmb : m2 ≤ 9 := by have := HC.out; omega
          clear HR hm2 hmi
          go_wp2
          go_roundw
          case rel => exact ⟨0 + 1, m2, by omega, by omega, by omega, fun h => by omega, fun h => by omega, by have := HM.out; go_num, by go_num, HN, by trivial⟩
          case measure => simp [intOf]; omega
      · have hm9 := hm1 rfl
        have hlt' : (1 : Int) < n := by omega
        have hcell0 := hcell
        simp [Addr.add] at hcell0
        clear hm0 hm1
        by_cases hce : cI = eI
        · have HN := Lib.hid (show sideR 0 0 l e = some (m, l.drop (1 + 1)) by
            rw [HR.out, HDK.out, sideR, if_pos ⟨UInt8.toNat_inj.1 (by have := HC.out; have := HE.out; omega), by omega⟩])
          have hdr := fun (u : World) (hu : BA u (some ad) n c l) => hu.drop (show 1 + 1 ≤ n by omega)
          have hk1 : (1 : Int) + 1 ≤ n := by omega
          have hk1' : (2 : Int) ≤ n := by omega
          subst hce
          clear HR
          by_cases hck : c = 1 + 1
          · simp only [if_pos hck] at hdr
            subst hck
            have HD := Lib.hid hdr
            clear hdr
            go_upto_region 6 with fail
            go_quiet (fail)
            obtain ⟨w1, hw1⟩ : ∃ y, wr.drewN nq = y := ⟨_, rfl⟩
            have HB1 := Lib.hid (show Below wr.heap.size wr w1 by rw [← hw1]; exact drawnB (Below.refl _ wr) _)
            rw [hw1]
            clear hw1
            go_wp2
            go_ret3
            refine ⟨fun m' r' h => ?_, fun h => (by rw [HN.out] at h; cases h), HB1.out⟩
            rw [HN.out] at h
            cases h
            exact ⟨_, _, _, by simp; omega, HD.out⟩
          · simp only [if_neg hck] at hdr
            have hck' : ¬ c = 2 := by omega
            have HD := Lib.hid hdr
            clear hdr
            go_upto_region 6 with fail
            go_quiet (fail)
            obtain ⟨w1, hw1⟩ : ∃ y, wr.drewN nq = y := ⟨_, rfl⟩
            have HB1 := Lib.hid (show Below wr.heap.size wr w1 by rw [← hw1]; exact drawnB (Below.refl _ wr) _)
            rw [hw1]
            clear hw1
            go_wp2
            go_ret3
            refine ⟨fun m' r' h => ?_, fun h => (by rw [HN.out] at h; cases h), HB1.out⟩
            rw [HN.out] at h
            cases h
            exact ⟨_, _, _, by rfl, HD.out⟩
        · have HX := Lib.hid (show ¬ (u = e ∧ 0 < 1) from fun h => hce (by rw [HC.out, HE.out, h.1]))
          by_cases hc48 : cI < 48
          · have HN := Lib.hid (show sideR 0 0 l e = none by rw [HR.out, HDK.out, sideR, if_neg HX.out, if_pos (by have := HC.out; omega)])
            clear HR
            go_wp2
            go_ret3
            exact ⟨fun m' r' h => (by rw [HN.out] at h; cases h), fun _ => rfl, Below.refl _ _⟩
          by_cases hc57 : 57 < cI
          · have HN := Lib.hid (show sideR 0 0 l e = none by rw [HR.out, HDK.out, sideR, if_neg HX.out, if_pos (by have := HC.out; omega)])
            clear HR
            go_wp2
            go_ret3
            exact ⟨fun m' r' h => (by rw [HN.out] at h; cases h), fun _ => rfl, Below.refl _ _⟩
          by_cases hcz : cI = 48
          · obtain ⟨m2, hm2⟩ : ∃ m2, m2 = 10 * m + (u.toNat - 48) := ⟨_, rfl⟩
            have HN := Lib.hid (show sideR 0 0 l e = sideR (1 + 1) m2 (l.drop (1 + 1)) e by rw [HR.out, HDK.out, sideR, if_neg HX.out, if_neg (by have := HC.out; omega), hm2])
            have hmi : (m2 : Int) = 10 * (m : Int) + (cI - 48) := by have := HC.out; omega
            have HM := Lib.hid hmi
            have hmb : m2 ≤ 99 := by have := HC.out; omega
            clear HR hm2 hmi
            go_wp2
            go_roundw
            case rel => exact ⟨1 + 1, m2, by omega, by omega, by omega, fun h => by omega, fun h => by omega, by have := HM.out; go_num, by go_num, HN, by trivial⟩
            case measure => simp [intOf]; omega
          obtain ⟨m2, hm2⟩ : ∃ m2, m2 = 10 * m + (u.toNat - 48) := ⟨_, rfl⟩
          have HN := Lib.hid (show sideR 0 0 l e = sideR (1 + 1) m2 (l.drop (1 + 1)) e by rw [HR.out, HDK.out, sideR, if_neg HX.out, if_neg (by have := HC.out; omega), hm2])
          have hmi : (m2 : Int) = 10 * (m : Int) + (cI - 48) := by have := HC.out; omega
          have HM := Lib.hid hmi
          have hmb : m2 ≤ 99 := by have := HC.out; omega
          clear HR hm2 hmi
          go_wp2
          go_roundw
          case rel => exact ⟨1 + 1, m2, by omega, by omega, by omega, fun h => by omega, fun h => by omega, by have := HM.out; go_num, by go_num, HN, by trivial⟩
          case measure => simp [intOf]; omega
      · have hlt' : (2 : Int) < n := by omega
        have hcell0 := hcell
        simp [Addr.add] at hcell0
        clear hm0 hm1
        by_cases hce : cI = eI
        · have HN := Lib.hid (show sideR 0 0 l e = some (m, l.drop (2 + 1)) by
            rw [HR.out, HDK.out, sideR, if_pos ⟨UInt8.toNat_inj.1 (by have := HC.out; have := HE.out; omega), by omega⟩])
          have hdr := fun (u : World) (hu : BA u (some ad) n c l) => hu.drop (show 2 + 1 ≤ n by omega)
          have hk1 : (2 : Int) + 1 ≤ n := by omega
          have hk1' : (3 : Int) ≤ n := by omega
          subst hce
          clear HR
          by_cases hck : c = 2 + 1
          · simp only [if_pos hck] at hdr
            subst hck
            have HD := Lib.hid hdr
            clear hdr
            go_upto_region 6 with fail
            go_quiet (fail)
            obtain ⟨w1, hw1⟩ : ∃ y, wr.drewN nq = y := ⟨_, rfl⟩
            have HB1 := Lib.hid (show Below wr.heap.size wr w1 by rw [← hw1]; exact drawnB (Below.refl _ wr) _)
            rw [hw1]
            clear hw1
            go_wp2
            go_ret3
            refine ⟨fun m' r' h => ?_, fun h => (by rw [HN.out] at h; cases h), HB1.out⟩
            rw [HN.out] at h
            cases h
            exact ⟨_, _, _, by simp; omega, HD.out⟩
          · simp only [if_neg hck] at hdr
            have hck' : ¬ c = 3 := by omega
            have HD := Lib.hid hdr
            clear hdr
            go_upto_region 6 with fail
            go_quiet (fail)
            obtain ⟨w1, hw1⟩ : ∃ y, wr.drewN nq = y := ⟨_, rfl⟩
            have HB1 := Lib.hid (show Below wr.heap.size wr w1 by rw [← hw1]; exact drawnB (Below.refl _ wr) _)
            rw [hw1]
            clear hw1
            go_wp2
            go_ret3
            refine ⟨fun m' r' h => ?_, fun h => (by rw [HN.out] at h; cases h), HB1.out⟩
            rw [HN.out] at h
            cases h
            exact ⟨_, _, _, by rfl, HD.out⟩
        · have HX := Lib.hid (show ¬ (u = e ∧ 0 < 2) from fun h => hce (by rw [HC.out, HE.out, h.1]))
          have HN := Lib.hid (show sideR 0 0 l e = none by rw [HR.out, HDK.out, sideR, if_neg HX.out, if_pos (by have := HC.out; omega)])
          clear HR
          go_wp2
          go_ret3
          exact ⟨fun m' r' h => (by rw [HN.out] at h; cases h), fun _ => rfl, Below.refl _ _⟩
    · obtain rfl : k = n := by omega
      have HN := Lib.hid (show sideR 0 0 l e = none by rw [HR.out, List.drop_of_length_le (by have := HL.out.1; omega), sideR])
      go_wp2
      go_ret3
      exact ⟨fun m' r' h => (by rw [HN.out] at h; cases h), fun _ => rfl, Below.refl _ _⟩

end Go.Proofs.YtcohehekkeeeoaaDoor.Pg
