/- Layer 22: digits back to bytes, by the program. -/
import Derived.Test.YtpinpkhalccjhaaDoorSeg
import Derived.Test.YtpinpkhalccjhaaDoorLs
import Derived.Deep.RegionHeld
import Derived.Lib.Bytealg
import Derived.OwnWalk
namespace Go.Proofs.YtpinpkhalccjhaaDoor.Se
open Go Go.RowKit Go.Proofs.YtpinpkhalccjhaaDoor Go.Proofs.YtpinpkhalccjhaaDoor.Au Go.Proofs.YtpinpkhalccjhaaDoor.Re
set_option linter.unusedVariables false
set_option linter.unusedSimpArgs false

def ats (s : ByteArray) (k : Nat) : Nat := (s.data.toList.getD k 0).toNat

theorem ats_is (s : ByteArray) (k : Nat) (h : k < s.size) : s[k].toNat = ats s k := by
  unfold ats; simp [ByteArray.getElem_eq_getElem_data, h]

theorem ats_lt (s : ByteArray) (k : Nat) : ats s k < 256 := by
  unfold ats; exact (s.data.toList.getD k 0).toNat_lt

/-- a digit's number; 16: it is none -/
def dv (c : Nat) : Nat := if 48 ≤ c ∧ c ≤ 57 then c - 48 else if 97 ≤ c ∧ c ≤ 102 then c - 87 else 16

def ix (c : Nat) : Int := if dv c < 16 then (dv c : Int) else -1

theorem ix_all : ∀ c : Fin 256, Lib.indexByte [48, 49, 50, 51, 52, 53, 54, 55, 56, 57, 97, 98, 99, 100, 101, 102] ((c.val : Int).toNat.toUInt8) = ix c.val := by decide +kernel

theorem index_any (c : Nat) (hc : c < 256) (w : World) : Calls Tryd.prog 87 #[.string { data := #[48, 49, 50, 51, 52, 53, 54, 55, 56, 57, 97, 98, 99, 100, 101, 102] }, .int .u8 (c : Int)] w fun e w' => e = .returned (.int .i64 (ix c)) ∧ w = w' := by
  refine (ShH.strings_IndexByte { data := #[48, 49, 50, 51, 52, 53, 54, 55, 56, 57, 97, 98, 99, 100, 101, 102] } (c : Int) w).mono ?_
  rintro e w' ⟨rfl, rfl⟩
  have h := ix_all ⟨c, hc⟩
  exact ⟨by rw [← h], rfl⟩

theorem index_str (s : ByteArray) (k : Nat) (h : k < s.size) (W : World) : (Instr.index 9 (.string s) (.int .i64 (k : Int))).run Tryd.prog W = .ok (.int .u8 (ats s k : Int)) W := by
  have h1 := ats_is s k h
  simp [Instr.index, go_sem, h, h1]

theorem index_yes (c d : Nat) (hc : c < 256) (hd : dv c < 16) (he : d = dv c) (w : World) : Calls Tryd.prog 87 #[.string { data := #[48, 49, 50, 51, 52, 53, 54, 55, 56, 57, 97, 98, 99, 100, 101, 102] }, .int .u8 (c : Int)] w fun e w' => e = .returned (.int .i64 (d : Int)) ∧ w = w' := by
  have h := index_any c hc w
  unfold ix at h
  rw [if_pos hd, ← he] at h
  exact h

theorem index_no (c : Nat) (hc : c < 256) (hd : ¬ dv c < 16) (w : World) : Calls Tryd.prog 87 #[.string { data := #[48, 49, 50, 51, 52, 53, 54, 55, 56, 57, 97, 98, 99, 100, 101, 102] }, .int .u8 (c : Int)] w fun e w' => e = .returned (.int .i64 (-1)) ∧ w = w' := by
  have h := index_any c hc w
  unfold ix at h
  rw [if_neg hd] at h
  exact h

def pairOk (s : ByteArray) (k : Nat) : Prop := dv (ats s (2 * k)) < 16 ∧ dv (ats s (2 * k + 1)) < 16

def pairB (s : ByteArray) (k : Nat) : UInt8 := UInt8.ofNat (dv (ats s (2 * k)) * 16 + dv (ats s (2 * k + 1)))

def outs (s : ByteArray) (n : Nat) : List UInt8 := (List.range n).map (pairB s)

theorem outs_succ (s : ByteArray) (n : Nat) : outs s (n + 1) = outs s n ++ [pairB s n] := by
  unfold outs
  rw [List.range_succ, List.map_append]
  rfl

theorem outs_len (s : ByteArray) (n : Nat) : (outs s n).length = n := by simp [outs]

/-- the digits of some bytes -/
def okHex (s : ByteArray) : Prop := s.size % 2 = 0 ∧ ∀ k, k < s.size / 2 → pairOk s k

instance (s : ByteArray) (k : Nat) : Decidable (pairOk s k) := by unfold pairOk; infer_instance
instance (s : ByteArray) : Decidable (okHex s) := by unfold okHex; infer_instance

theorem shl4 (x : Nat) (h : x < 16) : IntKind.i64.wrap ((x : Int) * 16) = ((x * 16 : Nat) : Int) := by rw [IntKind.wrap_i64]; omega

theorem or_nib : ∀ x y : Fin 16, bits .or .i64 ((x.val * 16 : Nat) : Int) (y.val : Int) = ((x.val * 16 + y.val : Nat) : Int) := by decide +kernel

set_option maxHeartbeats 4000000 in
set_option maxRecDepth 100000 in
theorem unhex_go (s : ByteArray) (L : Nat) (hL : s.size = L) (hb : L ≤ 20000) (w : World) :
    Calls Tryd.prog 45 #[.string s] w fun e w' => (okHex s → ∃ v', e = .returned (.tuple #[v', .int .i64 0]) ∧ w'.ownsRow w.heap.size 5 1 v' (L / 2) (vals (outs s (L / 2)))) ∧ (¬ okHex s → e = .returned (.tuple #[.slice none 0 0, .int .i64 10])) ∧ Below w.heap.size w w' := by
  obtain ⟨i0, hi, hz0, hz1, hz2⟩ := info_parts infoByte
  by_cases hev : L % 2 = 0
  · have hm : ((L : Int) % 2 != 0) = false := by have : (L : Int) % 2 = 0 := by omega
                                                 simp [this]
    obtain ⟨h2, hh2⟩ : ∃ x, x = L / 2 := ⟨_, rfl⟩
    have hq : (L : Int) / 2 = (h2 : Int) := by omega
    have HH := Lib.hid hh2
    have HEV := Lib.hid hev
    have h2b : h2 ≤ 10000 := by omega
    clear hh2 hev
    go_enter Tryd.func45, Tryd.ntmps45
    go_upto_region 4 with (at_make; refine wpList_make_own w rfl _ _ 67 rfl w.heap.size 5 i0 (.int .u8 0) 1 Tryd.underlying67 hi hz0 hz1 .i64 .i64 _ h2 rfl rfl rfl (by rw [hz2]; omega) (by unfold maxLen; omega) (Nat.le_refl _) ?_)
    intro y1 hown hgrow
    have hb1 : Below w.heap.size w y1 := (Below.refl _ w).grown hgrow (Nat.le_refl _) (fun q hq => by cases hq)
    have HO0 := Lib.hid (show y1.ownsRow w.heap.size 5 1 (.slice (some ⟨w.heap.size, 0, none⟩) 0 h2) 0 (vals (outs s 0)) from hown)
    have HU0 := Lib.hid hb1
    clear hown hgrow hb1
    go_upto_region 4 with fail
    go_wp2_with fail
    go_loopw [4, 5] (fun v i wr => ∃ (k i2 : Nat) (a : Option Addr) (c : Nat), k ≤ h2 ∧ i2 = 2 * k ∧ i = .int .i64 i2 ∧ v = .slice a k c ∧ Hid (∀ j, j < k → pairOk s j) ∧ Hid (wr.ownsRow w.heap.size 5 1 (.slice a k c) k (vals (outs s k))) ∧ Hid (Below w.heap.size w wr)) (fun _ i _ => L - (intOf i).toNat)
    case atStart => exact ⟨0, 0, _, _, by omega, rfl, rfl, rfl, Lib.hid (fun j hj => by omega), HO0, HU0⟩
    case round =>
      obtain ⟨k, i2, a, c, hk, hi2, rfl, rfl, HG, HI, HU⟩ := hrel
      have HI2 := Lib.hid hi2
      have hlt2 : i2 ≤ L := by have := HH.out; have := HEV.out; omega
      by_cases hlt : k < h2
      · have hl2 : i2 + 1 < L := by have := HH.out; have := HEV.out; omega
        have hlt' : (i2 : Int) < L := by omega
        clear hi2
        obtain ⟨i3, hi3⟩ : ∃ x, x = i2 + 1 := ⟨_, rfl⟩
        have hw3 : IntKind.i64.wrap ((i2 : Int) + 1) = (i3 : Int) := by rw [IntKind.wrap_i64]; omega
        obtain ⟨c0, hc0⟩ : ∃ x, x = ats s i2 := ⟨_, rfl⟩
        obtain ⟨c1, hc1⟩ : ∃ x, x = ats s i3 := ⟨_, rfl⟩
        have hx0 : ∀ W, (Instr.index 9 (.string s) (.int .i64 (i2 : Int))).run Tryd.prog W = .ok (.int .u8 (c0 : Int)) W := fun W => by rw [hc0]; exact index_str s i2 (by omega) W
        have hx1 : ∀ W, (Instr.index 9 (.string s) (.int .i64 (i3 : Int))).run Tryd.prog W = .ok (.int .u8 (c1 : Int)) W := fun W => by rw [hc1]; exact index_str s i3 (by omega) W
        have hc0b : c0 < 256 := by rw [hc0]; exact ats_lt s i2
        have hc1b : c1 < 256 := by rw [hc1]; exact ats_lt s i3
        have HC0 := Lib.hid (show c0 = ats s (2 * k) by rw [hc0, HI2.out])
        have HC1 := Lib.hid (show c1 = ats s (2 * k + 1) by rw [hc1, hi3, HI2.out])
        have HI3 := Lib.hid hi3
        clear hc0 hc1 hi3
        have hbk := HU.out
        have hsz := hbk.size
        by_cases g0 : dv c0 < 16
        · obtain ⟨d0, hd0⟩ : ∃ x, x = dv c0 := ⟨_, rfl⟩
          have hd0b : d0 < 16 := by omega
          by_cases g1 : dv c1 < 16
          · obtain ⟨d1, hd1⟩ : ∃ x, x = dv c1 := ⟨_, rfl⟩
            have hd1b : d1 < 16 := by omega
            obtain ⟨z, hz⟩ : ∃ x, x = d0 * 16 + d1 := ⟨_, rfl⟩
            have HZ := Lib.hid (show (z : Int) = ((pairB s k).toNat : Int) by
              unfold pairB
              rw [← HC0.out, ← HC1.out, ← hd0, ← hd1, UInt8.toNat_ofNat_of_lt' (by simp [UInt8.size]; omega), hz])
            have hor : bits .or .i64 ((d0 : Int) * 16) (d1 : Int) = (z : Int) := by
              have h := or_nib ⟨d0, hd0b⟩ ⟨d1, hd1b⟩
              rw [hz]
              rw [show ((d0 : Int) * 16) = ((d0 * 16 : Nat) : Int) by omega]
              exact h
            have hz8 : (z : Int) % 256 = (z : Int) := by omega
            have HG2 := Lib.hid (show ∀ j, j < k + 1 → pairOk s j from fun j hj => by
              by_cases e : j < k
              · exact HG.out j e
              · obtain rfl : j = k := by omega
                exact ⟨by rw [← HC0.out]; exact g0, by rw [← HC1.out]; exact g1⟩)
            have HD0 := Lib.hid hd0
            have HD1 := Lib.hid hd1
            clear hd0 hd1 hz
            have HI1 := Lib.hid ((show (wr.drew).ownsRow w.heap.size 5 1 (.slice a k c) k (vals (outs s k)) from Ls.own_below HI.out (Below.refl _ _).drew).alloc (.cells #[.int .u8 (z : Int)] 5))
            have HV := Lib.hid (vals_one1 (z : Int) (pairB s k) HZ.out wr.drew wr.drew.heap.size rfl)
            go_wp2_with fail
            refine wp_region_held_drew (S := fun _ => True) (by kernel_rfl) (trivial) (fun hS0 => ?_)
            refine wpAnyH_take (i := 0) (v := ?_) rfl (by kernel_rfl) (by kernel_rfl) (by kernel_rfl) (fun _ _ _ h => h) (Or.inl ⟨by kernel_rfl, by (intro wz hSz; go_simp; try with_reducible rfl)⟩) hS0 ?_
            go_simp
            refine wpAnyH_take (i := 1) (v := ?_) rfl (by kernel_rfl) (by kernel_rfl) (by kernel_rfl) (fun _ _ _ h => h) (Or.inl ⟨by kernel_rfl, by (intro wz hSz; go_simp; try with_reducible rfl)⟩) hS0 ?_
            go_simp
            refine wpAnyH_take (i := 2) (v := ?_) rfl (by kernel_rfl) (by kernel_rfl) (by kernel_rfl) (fun _ _ _ h => h) (Or.inl ⟨by kernel_rfl, by (intro wz hSz; go_simp; try with_reducible rfl)⟩) hS0 ?_
            go_simp
            refine wpAnyH_take (i := 4) (v := ?_) rfl (by kernel_rfl) (by kernel_rfl) (by kernel_rfl) (fun _ _ _ h => h) (Or.inl ⟨by kernel_rfl, by (intro wz hSz; go_simp; try with_reducible rfl)⟩) hS0 ?_
            go_simp
            refine wpAnyH_take (i := 5) (v := ?_) rfl (by kernel_rfl) (by kernel_rfl) (by kernel_rfl) (fun _ _ _ h => h) (Or.inl ⟨by kernel_rfl, by (intro wz hSz; go_simp; try with_reducible rfl)⟩) hS0 ?_
            go_simp
            refine wpAnyH_take (i := 6) (v := ?_) rfl (by kernel_rfl) (by kernel_rfl) (by kernel_rfl) (fun _ _ _ h => h) (Or.inl ⟨by kernel_rfl, by (intro wz hSz; go_simp; try with_reducible rfl)⟩) hS0 ?_
            go_simp
            refine wpAnyH_take (i := 7) (v := ?_) rfl (by kernel_rfl) (by kernel_rfl) (by kernel_rfl) (fun _ _ _ h => h) (Or.inl ⟨by kernel_rfl, by (intro wz hSz; go_simp; try with_reducible rfl)⟩) hS0 ?_
            go_simp
            refine wpAnyH_ready (rs := [3]) (by kernel_rfl) (by simp) ?_
            refine AllReadyH.cons rfl (fun K hK => ?_) AllReadyH.nil
            go_simp
            go_wp2_with (go_at_call 87; refine (index_yes c0 d0 hc0b g0 HD0.out _).mono ?_; rintro e ww ⟨rfl, rfl⟩)
            refine hK.out _ _ (hS0) (fun hSq3 => ?_)
            clear hK K
            refine wpAnyH_ready (rs := [8]) (by kernel_rfl) (by simp) ?_
            refine AllReadyH.cons rfl (fun K hK => ?_) AllReadyH.nil
            go_simp
            go_wp2_with (go_at_call 87; refine (index_yes c1 d1 hc1b g1 HD1.out _).mono ?_; rintro e ww ⟨rfl, rfl⟩)
            refine hK.out _ _ (hSq3) (fun hSq8 => ?_)
            clear hK K
            refine wpAnyH_take (i := 9) (v := ?_) rfl (by kernel_rfl) (by kernel_rfl) (by kernel_rfl) (fun _ _ _ h => h) (Or.inl ⟨by kernel_rfl, by (intro wz hSz; go_simp; try with_reducible rfl)⟩) hSq8 ?_
            go_simp
            refine wpAnyH_take (i := 10) (v := ?_) rfl (by kernel_rfl) (by kernel_rfl) (by kernel_rfl) (fun _ _ _ h => h) (Or.inl ⟨by kernel_rfl, by (intro wz hSz; go_simp; try with_reducible rfl)⟩) hSq8 ?_
            go_simp
            refine wpAnyH_done (by kernel_rfl) ?_ _
            skip
            go_wp2_with (first | (at_builtin; refine wpList_append_own _ rfl _ _ 67 rfl w.heap.size 5 i0 (.int .u8 0) 1 1 Tryd.underlying67 hi hz0 hz1 hz2 rfl (by decide) _ _ _ rfl HI1.out ⟨wr.drew.heap.size, 0, none⟩ 1 1 (vals [pairB s k]) rfl rfl HV.out (vals_one _) ?d3 ?d4 ?d5 ?_))
            case d3 => unfold maxLen; omega
            case d4 => omega
            case d5 => simp; omega
            intro v2 w2 hown2 hgrow2 _
            have hb2 : Below w.heap.size w w2 := ((hbk.drew).alloc (by simpa using hsz) _).grown hgrow2 (by simp; omega) (fun q hq => (HI.out.lt q hq).1)
            have HO2 := Lib.hid (show w2.ownsRow w.heap.size 5 1 v2 (k + 1) (vals (outs s (k + 1))) by rw [outs_succ, vals_append]; exact hown2)
            obtain ⟨a9, c9, hv⟩ := own_form HO2.out
            subst hv
            clear hown2 hgrow2 HI HI1 HV hx0 hx1
            go_wp2_with fail
            go_roundw
            case rel => exact ⟨k + 1, i2 + 2, a9, c9, by omega, by have := HI2.out; omega, by go_num, rfl, HG2, HO2, Lib.hid hb2⟩
            case measure => simp [intOf]; omega
          · have HNO := Lib.hid (show ¬ okHex s from fun h => g1 (by have h2 := (h.2 k (by rw [hL, ← HH.out]; exact hlt)).2; rw [← HC1.out] at h2; exact h2))
            have HD0 := Lib.hid hd0
            clear hd0
            go_wp2_with fail
            refine wp_region_held_drew (S := fun _ => True) (by kernel_rfl) (trivial) (fun hS0 => ?_)
            refine wpAnyH_take (i := 0) (v := ?_) rfl (by kernel_rfl) (by kernel_rfl) (by kernel_rfl) (fun _ _ _ h => h) (Or.inl ⟨by kernel_rfl, by (intro wz hSz; go_simp; try with_reducible rfl)⟩) hS0 ?_
            go_simp
            refine wpAnyH_take (i := 1) (v := ?_) rfl (by kernel_rfl) (by kernel_rfl) (by kernel_rfl) (fun _ _ _ h => h) (Or.inl ⟨by kernel_rfl, by (intro wz hSz; go_simp; try with_reducible rfl)⟩) hS0 ?_
            go_simp
            refine wpAnyH_take (i := 2) (v := ?_) rfl (by kernel_rfl) (by kernel_rfl) (by kernel_rfl) (fun _ _ _ h => h) (Or.inl ⟨by kernel_rfl, by (intro wz hSz; go_simp; try with_reducible rfl)⟩) hS0 ?_
            go_simp
            refine wpAnyH_take (i := 4) (v := ?_) rfl (by kernel_rfl) (by kernel_rfl) (by kernel_rfl) (fun _ _ _ h => h) (Or.inl ⟨by kernel_rfl, by (intro wz hSz; go_simp; try with_reducible rfl)⟩) hS0 ?_
            go_simp
            refine wpAnyH_take (i := 5) (v := ?_) rfl (by kernel_rfl) (by kernel_rfl) (by kernel_rfl) (fun _ _ _ h => h) (Or.inl ⟨by kernel_rfl, by (intro wz hSz; go_simp; try with_reducible rfl)⟩) hS0 ?_
            go_simp
            refine wpAnyH_take (i := 6) (v := ?_) rfl (by kernel_rfl) (by kernel_rfl) (by kernel_rfl) (fun _ _ _ h => h) (Or.inl ⟨by kernel_rfl, by (intro wz hSz; go_simp; try with_reducible rfl)⟩) hS0 ?_
            go_simp
            refine wpAnyH_take (i := 7) (v := ?_) rfl (by kernel_rfl) (by kernel_rfl) (by kernel_rfl) (fun _ _ _ h => h) (Or.inl ⟨by kernel_rfl, by (intro wz hSz; go_simp; try with_reducible rfl)⟩) hS0 ?_
            go_simp
            refine wpAnyH_ready (rs := [3]) (by kernel_rfl) (by simp) ?_
            refine AllReadyH.cons rfl (fun K hK => ?_) AllReadyH.nil
            go_simp
            go_wp2_with (go_at_call 87; refine (index_yes c0 d0 hc0b g0 HD0.out _).mono ?_; rintro e ww ⟨rfl, rfl⟩)
            refine hK.out _ _ (hS0) (fun hSq3 => ?_)
            clear hK K
            refine wpAnyH_ready (rs := [8]) (by kernel_rfl) (by simp) ?_
            refine AllReadyH.cons rfl (fun K hK => ?_) AllReadyH.nil
            go_simp
            go_wp2_with (go_at_call 87; refine (index_no c1 hc1b g1 _).mono ?_; rintro e ww ⟨rfl, rfl⟩)
            refine hK.out _ _ (hSq3) (fun hSq8 => ?_)
            clear hK K
            refine wpAnyH_take (i := 9) (v := ?_) rfl (by kernel_rfl) (by kernel_rfl) (by kernel_rfl) (fun _ _ _ h => h) (Or.inl ⟨by kernel_rfl, by (intro wz hSz; go_simp; try with_reducible rfl)⟩) hSq8 ?_
            go_simp
            refine wpAnyH_take (i := 10) (v := ?_) rfl (by kernel_rfl) (by kernel_rfl) (by kernel_rfl) (fun _ _ _ h => h) (Or.inl ⟨by kernel_rfl, by (intro wz hSz; go_simp; try with_reducible rfl)⟩) hSq8 ?_
            go_simp
            refine wpAnyH_done (by kernel_rfl) ?_ _
            skip
            go_wp2
            go_ret2
            exact ⟨fun h => absurd h HNO.out, fun _ => rfl, hbk.drew⟩
        · have HNO := Lib.hid (show ¬ okHex s from fun h => g0 (by have h2 := (h.2 k (by rw [hL, ← HH.out]; exact hlt)).1; rw [← HC0.out] at h2; exact h2))
          by_cases g1 : dv c1 < 16
          · obtain ⟨d1, hd1⟩ : ∃ x, x = dv c1 := ⟨_, rfl⟩
            have HD1 := Lib.hid hd1
            clear hd1
            go_wp2_with fail
            refine wp_region_held_drew (S := fun _ => True) (by kernel_rfl) (trivial) (fun hS0 => ?_)
            refine wpAnyH_take (i := 0) (v := ?_) rfl (by kernel_rfl) (by kernel_rfl) (by kernel_rfl) (fun _ _ _ h => h) (Or.inl ⟨by kernel_rfl, by (intro wz hSz; go_simp; try with_reducible rfl)⟩) hS0 ?_
            go_simp
            refine wpAnyH_take (i := 1) (v := ?_) rfl (by kernel_rfl) (by kernel_rfl) (by kernel_rfl) (fun _ _ _ h => h) (Or.inl ⟨by kernel_rfl, by (intro wz hSz; go_simp; try with_reducible rfl)⟩) hS0 ?_
            go_simp
            refine wpAnyH_take (i := 2) (v := ?_) rfl (by kernel_rfl) (by kernel_rfl) (by kernel_rfl) (fun _ _ _ h => h) (Or.inl ⟨by kernel_rfl, by (intro wz hSz; go_simp; try with_reducible rfl)⟩) hS0 ?_
            go_simp
            refine wpAnyH_take (i := 4) (v := ?_) rfl (by kernel_rfl) (by kernel_rfl) (by kernel_rfl) (fun _ _ _ h => h) (Or.inl ⟨by kernel_rfl, by (intro wz hSz; go_simp; try with_reducible rfl)⟩) hS0 ?_
            go_simp
            refine wpAnyH_take (i := 5) (v := ?_) rfl (by kernel_rfl) (by kernel_rfl) (by kernel_rfl) (fun _ _ _ h => h) (Or.inl ⟨by kernel_rfl, by (intro wz hSz; go_simp; try with_reducible rfl)⟩) hS0 ?_
            go_simp
            refine wpAnyH_take (i := 6) (v := ?_) rfl (by kernel_rfl) (by kernel_rfl) (by kernel_rfl) (fun _ _ _ h => h) (Or.inl ⟨by kernel_rfl, by (intro wz hSz; go_simp; try with_reducible rfl)⟩) hS0 ?_
            go_simp
            refine wpAnyH_take (i := 7) (v := ?_) rfl (by kernel_rfl) (by kernel_rfl) (by kernel_rfl) (fun _ _ _ h => h) (Or.inl ⟨by kernel_rfl, by (intro wz hSz; go_simp; try with_reducible rfl)⟩) hS0 ?_
            go_simp
            refine wpAnyH_ready (rs := [3]) (by kernel_rfl) (by simp) ?_
            refine AllReadyH.cons rfl (fun K hK => ?_) AllReadyH.nil
            go_simp
            go_wp2_with (go_at_call 87; refine (index_no c0 hc0b g0 _).mono ?_; rintro e ww ⟨rfl, rfl⟩)
            refine hK.out _ _ (hS0) (fun hSq3 => ?_)
            clear hK K
            refine wpAnyH_ready (rs := [8]) (by kernel_rfl) (by simp) ?_
            refine AllReadyH.cons rfl (fun K hK => ?_) AllReadyH.nil
            go_simp
            go_wp2_with (go_at_call 87; refine (index_yes c1 d1 hc1b g1 HD1.out _).mono ?_; rintro e ww ⟨rfl, rfl⟩)
            refine hK.out _ _ (hSq3) (fun hSq8 => ?_)
            clear hK K
            refine wpAnyH_take (i := 9) (v := ?_) rfl (by kernel_rfl) (by kernel_rfl) (by kernel_rfl) (fun _ _ _ h => h) (Or.inl ⟨by kernel_rfl, by (intro wz hSz; go_simp; try with_reducible rfl)⟩) hSq8 ?_
            go_simp
            refine wpAnyH_take (i := 10) (v := ?_) rfl (by kernel_rfl) (by kernel_rfl) (by kernel_rfl) (fun _ _ _ h => h) (Or.inl ⟨by kernel_rfl, by (intro wz hSz; go_simp; try with_reducible rfl)⟩) hSq8 ?_
            go_simp
            refine wpAnyH_done (by kernel_rfl) ?_ _
            skip
            go_wp2
            go_ret2
            exact ⟨fun h => absurd h HNO.out, fun _ => rfl, hbk.drew⟩
          · go_wp2_with fail
            refine wp_region_held_drew (S := fun _ => True) (by kernel_rfl) (trivial) (fun hS0 => ?_)
            refine wpAnyH_take (i := 0) (v := ?_) rfl (by kernel_rfl) (by kernel_rfl) (by kernel_rfl) (fun _ _ _ h => h) (Or.inl ⟨by kernel_rfl, by (intro wz hSz; go_simp; try with_reducible rfl)⟩) hS0 ?_
            go_simp
            refine wpAnyH_take (i := 1) (v := ?_) rfl (by kernel_rfl) (by kernel_rfl) (by kernel_rfl) (fun _ _ _ h => h) (Or.inl ⟨by kernel_rfl, by (intro wz hSz; go_simp; try with_reducible rfl)⟩) hS0 ?_
            go_simp
            refine wpAnyH_take (i := 2) (v := ?_) rfl (by kernel_rfl) (by kernel_rfl) (by kernel_rfl) (fun _ _ _ h => h) (Or.inl ⟨by kernel_rfl, by (intro wz hSz; go_simp; try with_reducible rfl)⟩) hS0 ?_
            go_simp
            refine wpAnyH_take (i := 4) (v := ?_) rfl (by kernel_rfl) (by kernel_rfl) (by kernel_rfl) (fun _ _ _ h => h) (Or.inl ⟨by kernel_rfl, by (intro wz hSz; go_simp; try with_reducible rfl)⟩) hS0 ?_
            go_simp
            refine wpAnyH_take (i := 5) (v := ?_) rfl (by kernel_rfl) (by kernel_rfl) (by kernel_rfl) (fun _ _ _ h => h) (Or.inl ⟨by kernel_rfl, by (intro wz hSz; go_simp; try with_reducible rfl)⟩) hS0 ?_
            go_simp
            refine wpAnyH_take (i := 6) (v := ?_) rfl (by kernel_rfl) (by kernel_rfl) (by kernel_rfl) (fun _ _ _ h => h) (Or.inl ⟨by kernel_rfl, by (intro wz hSz; go_simp; try with_reducible rfl)⟩) hS0 ?_
            go_simp
            refine wpAnyH_take (i := 7) (v := ?_) rfl (by kernel_rfl) (by kernel_rfl) (by kernel_rfl) (fun _ _ _ h => h) (Or.inl ⟨by kernel_rfl, by (intro wz hSz; go_simp; try with_reducible rfl)⟩) hS0 ?_
            go_simp
            refine wpAnyH_ready (rs := [3]) (by kernel_rfl) (by simp) ?_
            refine AllReadyH.cons rfl (fun K hK => ?_) AllReadyH.nil
            go_simp
            go_wp2_with (go_at_call 87; refine (index_no c0 hc0b g0 _).mono ?_; rintro e ww ⟨rfl, rfl⟩)
            refine hK.out _ _ (hS0) (fun hSq3 => ?_)
            clear hK K
            refine wpAnyH_ready (rs := [8]) (by kernel_rfl) (by simp) ?_
            refine AllReadyH.cons rfl (fun K hK => ?_) AllReadyH.nil
            go_simp
            go_wp2_with (go_at_call 87; refine (index_no c1 hc1b g1 _).mono ?_; rintro e ww ⟨rfl, rfl⟩)
            refine hK.out _ _ (hSq3) (fun hSq8 => ?_)
            clear hK K
            refine wpAnyH_take (i := 9) (v := ?_) rfl (by kernel_rfl) (by kernel_rfl) (by kernel_rfl) (fun _ _ _ h => h) (Or.inl ⟨by kernel_rfl, by (intro wz hSz; go_simp; try with_reducible rfl)⟩) hSq8 ?_
            go_simp
            refine wpAnyH_take (i := 10) (v := ?_) rfl (by kernel_rfl) (by kernel_rfl) (by kernel_rfl) (fun _ _ _ h => h) (Or.inl ⟨by kernel_rfl, by (intro wz hSz; go_simp; try with_reducible rfl)⟩) hSq8 ?_
            go_simp
            refine wpAnyH_done (by kernel_rfl) ?_ _
            skip
            go_wp2
            go_ret2
            exact ⟨fun h => absurd h HNO.out, fun _ => rfl, hbk.drew⟩
      · have hge : ¬ (i2 : Int) < L := by have := HH.out; have := HEV.out; omega
        have HKE := Lib.hid (show k = L / 2 by have := HH.out; omega)
        clear hi2
        go_wp2
        go_ret2
        exact ⟨fun _ => ⟨_, rfl, by rw [← HKE.out]; exact HI.out⟩, fun h => absurd ⟨by rw [hL]; exact HEV.out, fun j hj => HG.out j (by rw [HKE.out]; rw [hL] at hj; exact hj)⟩ h, HU.out⟩
  · have hm : ((L : Int) % 2 != 0) = true := by have : (L : Int) % 2 ≠ 0 := by omega
                                                simp [this]
    have HNO := Lib.hid (show ¬ okHex s from fun h => hev (by rw [← hL]; exact h.1))
    clear hev
    go_enter Tryd.func45, Tryd.ntmps45
    go_wp2
    go_ret2
    exact ⟨fun h => absurd h HNO.out, fun _ => rfl, Below.refl _ _⟩

end Go.Proofs.YtpinpkhalccjhaaDoor.Se
