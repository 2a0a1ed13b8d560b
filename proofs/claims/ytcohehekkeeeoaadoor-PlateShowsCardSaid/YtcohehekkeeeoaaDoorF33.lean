/- The contracts of layer 1's root, by steps down, and of the document's, by halving: both are the greatest number whose square isn't above. -/
import Derived.Test.YtcohehekkeeeoaaDoorF06
import Derived.Test.YtcohehekkeeeoaaDoorF32
import Derived.Test.YtcohehekkeeeoaaDoorF03
namespace Go.Proofs.YtcohehekkeeeoaaDoor.Wa
open Go.RowKit Go.Proofs.YtcohehekkeeeoaaDoor

theorem root_none (a : Int) (h : a ≤ 0) (w : World) : Calls Tryd.prog 74 #[.int .i64 a] w fun e w' => e = .returned (.int .i64 0) ∧ w = w' := by
  go_enter Tryd.func74, Tryd.ntmps74
  go_wp2
  go_ret
  exact ⟨rfl, rfl⟩

theorem lt_bitLen (x : Nat) (h : x < 2 ^ 64) : x < 2 ^ Lib.bitLen x := by
  rcases Nat.lt_or_ge x (2 ^ Lib.bitLen x) with h' | h'
  · exact h'
  · have e := Lib.bitLen_shift _ x h' h
    have hy : 1 ≤ x / 2 ^ Lib.bitLen x := (Nat.le_div_iff_mul_le (Nat.two_pow_pos _)).2 (by omega)
    have hz : 1 ≤ Lib.bitLen (x / 2 ^ Lib.bitLen x) := by
      generalize x / 2 ^ Lib.bitLen x = y at hy ⊢
      unfold Lib.bitLen
      rw [show (64 : Nat) = 63 + 1 from rfl, Lib.bitLenAux, if_neg (by omega)]
      omega
    omega

theorem len_any (n : Nat) (h1 : n ≤ 140737488355328) (w : World) : Calls Tryd.prog 78 #[.int .u64 n] w fun e w' => (∃ L : Nat, e = .returned (.int .i64 L) ∧ L ≤ 48 ∧ Hid (n < 2 ^ L)) ∧ w = w' := by
  refine (ShB.bits_Len64 n w (by omega) (by omega)).mono ?_
  rintro e w' ⟨rfl, rfl⟩
  exact ⟨⟨Lib.bitLen n, by rw [Int.toNat_natCast], Lib.bitLen_le n 48 (by omega) (by omega), Lib.hid (lt_bitLen n (by omega))⟩, rfl⟩

theorem start_ok (n L : Nat) (hL : L ≤ 48) (h : n < 2 ^ L) : ∃ k : Nat, Value.int IntKind.u64 (IntKind.u64.wrap (2 ^ ((L + 1) / 2))) = .int .u64 k ∧ 0 < k ∧ k ≤ 16777216 ∧ Pl.rt n ≤ k := by
  have hp : (2 : Nat) ^ ((L + 1) / 2) ≤ 2 ^ 24 := Nat.pow_le_pow_right (by omega) (by omega)
  refine ⟨2 ^ ((L + 1) / 2), ?_, Nat.two_pow_pos _, hp, Pl.rt_le ?_⟩
  · have e : ((2 : Int) ^ ((L + 1) / 2)) = ((2 ^ ((L + 1) / 2) : Nat) : Int) := by simp
    rw [e, IntKind.wrap_u64]
    generalize 2 ^ ((L + 1) / 2) = r at hp ⊢
    rw [Int.emod_eq_of_lt (by omega) (by omega)]
  · have h1 : 2 ^ L ≤ 2 ^ ((L + 1) / 2) * 2 ^ ((L + 1) / 2) := by
      rw [← Nat.pow_add]; exact Nat.pow_le_pow_right (by omega) (by omega)
    generalize 2 ^ ((L + 1) / 2) = r at h1
    simp only [Nat.mul_add, Nat.add_mul]
    omega

theorem end_ok (n k : Nat) (h : Pl.rt n ≤ k) (hs : (k : Int) ≤ ((k : Int) + (n : Int) / (k : Int)) / 2) : (k : Int) = (Pl.rt n : Nat) := by
  have e : ((n / k : Nat) : Int) = (n : Int) / (k : Int) := by simp
  rw [← e] at hs
  have := Pl.step_end (n := n) h (by omega)
  omega

theorem step_ok (n k : Nat) (k0 : 0 < k) : Pl.rt n ≤ (k + n / k) / 2 := Pl.step_ge k0

theorem step_pos (n k : Nat) (k0 : 0 < k) (k1 : k ≤ 16777216) (_h : Pl.rt n ≤ k) (hn : 65536 ≤ n) : 0 < (k + n / k) / 2 := by
  by_cases h1 : 1 < k
  · generalize n / k = q; omega
  · have : k = 1 := by omega
    subst this; simp; omega

theorem root_some (a : Int) (h : 0 < a) (w : World) : Calls Tryd.prog 74 #[.int .i64 a] w fun e w' => e = .returned (.int .i64 (Pl.root a)) ∧ w = w' := by
  have a0 : 0 < Pl.held a := Pl.held_pos h
  have a1 := Pl.held_hi a
  obtain ⟨n, hn⟩ : ∃ n : Nat, Pl.held a * 65536 = n := ⟨(Pl.held a * 65536).toNat, by omega⟩
  have n0 : n ≤ 140737488355328 := by omega
  have hn0 : 65536 ≤ n := by omega
  have HV := Lib.hid (show ((Pl.rt n : Nat) : Int) = Pl.root a by unfold Pl.root; rw [if_neg (by omega)]; congr 2; omega)
  have hd : decide (a ≤ 0) = false := by simp; omega
  go_enter Tryd.func74, Tryd.ntmps74
  go_wp2_with (first | (go_at_call 61; refine (take_any _ _).mono ?_; rintro e w' ⟨rfl, rfl⟩) | (go_at_call 78; refine (len_any n n0 _).mono ?_; rintro e w' ⟨⟨L, rfl, hL, HL⟩, rfl⟩))
  go_loop [4] (fun r => ∃ k : Nat, r = .int .u64 k ∧ 0 < k ∧ k ≤ 16777216 ∧ Pl.rt n ≤ k) (fun r => (intOf r).toNat)
  case atStart => exact start_ok n L hL HL.out
  case round =>
    obtain ⟨k, rfl, k0, k1, HK⟩ := hrel
    have q0 : 0 ≤ (n : Int) / (k : Int) := Int.ediv_nonneg (by omega) (by omega)
    have q1 : (n : Int) / (k : Int) ≤ n := Int.ediv_le_self _ (by omega)
    by_cases hs : (k : Int) ≤ ((k : Int) + (n : Int) / (k : Int)) / 2
    · have HE := Lib.hid (end_ok n k HK hs)
      go_wp2
      go_ret
      exact ⟨ret_int (HE.out.trans (HV.out)), rfl⟩
    · have HG := Lib.hid (step_ok n k k0)
      go_wp2
      go_round
      case rel => exact ⟨(k + n / k) / 2, by go_num, step_pos n k k0 k1 HK hn0, by omega, HG.out⟩
      case measure => simp [intOf]; omega

theorem root_any (a : Int) (w : World) : Calls Tryd.prog 74 #[.int .i64 a] w fun e w' => e = .returned (.int .i64 (Pl.root a)) ∧ w = w' := by
  by_cases h : a ≤ 0
  · have := root_none a h w
    rwa [show (0 : Int) = Pl.root a by unfold Pl.root; rw [if_pos h]] at this
  · exact root_some a (by omega) w

theorem refRoot_none (a : Int) (h : a ≤ 0) (w : World) : Calls Tryd.prog 76 #[.int .i64 a] w fun e w' => e = .returned (.int .i64 0) ∧ w = w' := by
  have a0 : Pl.held a ≤ 0 := Pl.held_neg h
  go_enter Tryd.func76, Tryd.ntmps76
  go_wp2_with (go_at_call 67; refine (held_any _ _).mono ?_; rintro e w' ⟨rfl, rfl⟩)
  go_ret
  exact ⟨rfl, rfl⟩

theorem mid_le (l h n : Nat) (ht : (((l : Int) + h) / 2) * (((l : Int) + h) / 2) ≤ n) : (l + h) / 2 * ((l + h) / 2) ≤ n := by
  have e : ((l : Int) + h) / 2 = (((l + h) / 2 : Nat) : Int) := by omega
  rw [e] at ht
  exact Int.ofNat_le.1 (by simpa using ht)

theorem mid_gt (l h n : Nat) (ht : ¬ (((l : Int) + h) / 2) * (((l : Int) + h) / 2) ≤ n) : n < (l + h) / 2 * ((l + h) / 2) := by
  have e : ((l : Int) + h) / 2 = (((l + h) / 2 : Nat) : Int) := by omega
  rw [e] at ht
  refine Nat.lt_of_not_le fun hc => ht ?_
  have := Int.ofNat_le.2 hc
  simpa using this

theorem mid_bd (l h : Nat) (hh : h ≤ 16777216) (hl : l < h) : 0 ≤ (((l : Int) + h) / 2) * (((l : Int) + h) / 2) ∧ (((l : Int) + h) / 2) * (((l : Int) + h) / 2) ≤ 281474976710656 := by
  have e : ((l : Int) + h) / 2 = (((l + h) / 2 : Nat) : Int) := by omega
  have hm : (l + h) / 2 ≤ 16777216 := by omega
  rw [e]
  have := Nat.mul_le_mul hm hm
  omega

theorem refRoot_some (a : Int) (h : 0 < a) (w : World) : Calls Tryd.prog 76 #[.int .i64 a] w fun e w' => e = .returned (.int .i64 (Pl.root a)) ∧ w = w' := by
  have a0 : 0 < Pl.held a := Pl.held_pos h
  have a1 := Pl.held_hi a
  obtain ⟨n, hn⟩ : ∃ n : Nat, Pl.held a * 65536 = n := ⟨(Pl.held a * 65536).toNat, by omega⟩
  have n0 : n ≤ 140737488355328 := by omega
  have HV := Lib.hid (show ((Pl.rt n : Nat) : Int) = Pl.root a by unfold Pl.root; rw [if_neg (by omega)]; congr 2; omega)
  have hd : decide (Pl.held a ≤ 0) = false := by simp; omega
  go_enter Tryd.func76, Tryd.ntmps76
  go_wp2_with (go_at_call 67; refine (held_any _ _).mono ?_; rintro e w' ⟨rfl, rfl⟩)
  go_loop [4, 5] (fun l h => ∃ k m : Nat, l = .int .i64 k ∧ h = .int .i64 m ∧ k < m ∧ m ≤ 16777216 ∧ k * k ≤ n ∧ n < m * m) (fun l h => (intOf h - intOf l).toNat)
  case atStart => exact ⟨0, 16777216, rfl, rfl, by omega, by omega, by omega, by omega⟩
  case round =>
    obtain ⟨k, m, rfl, rfl, hkm, hm, H1, H2⟩ := hrel
    have ⟨b0, b1⟩ := mid_bd k m hm hkm
    by_cases hs : (m : Int) - k ≤ 1
    · have HE := Lib.hid (show (k : Int) = (Pl.rt n : Nat) by
        have : m = k + 1 := by omega
        subst this
        rw [Pl.rt_uniq H1 H2])
      clear H1 H2
      go_wp2
      go_ret
      exact ⟨ret_int (HE.out.trans (HV.out)), rfl⟩
    · have HC := Lib.hid (And.intro H1 H2)
      clear H1 H2
      by_cases ht : (((k : Int) + m) / 2) * (((k : Int) + m) / 2) ≤ n
      · have HT := Lib.hid (mid_le k m n ht)
        go_wp2
        go_round
        case rel => exact ⟨(k + m) / 2, m, by go_num, rfl, by omega, hm, HT.out, HC.out.2⟩
        case measure => simp [intOf]; omega
      · have HT := Lib.hid (mid_gt k m n ht)
        go_wp2
        go_round
        case rel => exact ⟨k, (k + m) / 2, rfl, by go_num, by omega, by omega, HC.out.1, HT.out⟩
        case measure => simp [intOf]; omega

theorem refRoot_any (a : Int) (w : World) : Calls Tryd.prog 76 #[.int .i64 a] w fun e w' => e = .returned (.int .i64 (Pl.root a)) ∧ w = w' := by
  by_cases h : a ≤ 0
  · have := refRoot_none a h w
    rwa [show (0 : Int) = Pl.root a by unfold Pl.root; rw [if_pos h]] at this
  · exact refRoot_some a (by omega) w
end Go.Proofs.YtcohehekkeeeoaaDoor.Wa

/- The contracts of how a number of light is shown, and of the document's own: what each returns, whatever the world; the world stays as it is. -/
namespace Go.Proofs.YtcohehekkeeeoaaDoor.Hv
open Go.RowKit Go.Proofs.YtcohehekkeeeoaaDoor Go.Proofs.YtcohehekkeeeoaaDoor.Wa

theorem tone_any (x : Int) (w : World) : Calls Tryd.prog 57 #[.int .i64 x] w fun e w' => e = .returned (.int .i64 (Pl.tone x)) ∧ w = w' := by
  have HV := Lib.hid (show Pl.root (Pl.div (max x 0) (Pl.add (max x 0) 65536)) = Pl.tone x by rw [Pl.pos_max]; rfl)
  go_enter Tryd.func57, Tryd.ntmps57
  go_wp2_with (first | (go_at_call 39; refine (add_any _ _ _).mono ?_; rintro e w' ⟨rfl, rfl⟩) | (go_at_call 38; refine (div_any _ _ _).mono ?_; rintro e w' ⟨rfl, rfl⟩) | (go_at_call 74; refine (root_any _ _).mono ?_; rintro e w' ⟨rfl, rfl⟩))
  go_ret
  exact ⟨ret_int HV.out, rfl⟩

theorem rtone_any (x : Int) (w : World) : Calls Tryd.prog 65 #[.int .i64 x] w fun e w' => e = .returned (.int .i64 (Pl.tone x)) ∧ w = w' := by
  by_cases h : Pl.held x < 0
  · have HV := Lib.hid (show Pl.root (Pl.div 0 (Pl.add 0 65536)) = Pl.tone x by rw [← Pl.tone_held x]; unfold Pl.pos; rw [if_pos h]; rfl)
    go_enter Tryd.func65, Tryd.ntmps65
    go_wp2_with (first | (go_at_call 67; refine (held_any _ _).mono ?_; rintro e w' ⟨rfl, rfl⟩) | (go_at_call 50; refine (refAdd_any _ _ _).mono ?_; rintro e w' ⟨rfl, rfl⟩) | (go_at_call 49; refine (refDiv_any _ _ _).mono ?_; rintro e w' ⟨rfl, rfl⟩) | (go_at_call 76; refine (refRoot_any _ _).mono ?_; rintro e w' ⟨rfl, rfl⟩))
    go_ret
    exact ⟨ret_int HV.out, rfl⟩
  · have HV := Lib.hid (show Pl.root (Pl.div (Pl.held x) (Pl.add (Pl.held x) 65536)) = Pl.tone x by rw [← Pl.tone_held x]; unfold Pl.pos; rw [if_neg h]; rfl)
    go_enter Tryd.func65, Tryd.ntmps65
    go_wp2_with (first | (go_at_call 67; refine (held_any _ _).mono ?_; rintro e w' ⟨rfl, rfl⟩) | (go_at_call 50; refine (refAdd_any _ _ _).mono ?_; rintro e w' ⟨rfl, rfl⟩) | (go_at_call 49; refine (refDiv_any _ _ _).mono ?_; rintro e w' ⟨rfl, rfl⟩) | (go_at_call 76; refine (refRoot_any _ _).mono ?_; rintro e w' ⟨rfl, rfl⟩))
    go_ret
    exact ⟨ret_int HV.out, rfl⟩

theorem shade_any (y : Int) (w : World) : Calls Tryd.prog 42 #[.int .i64 y] w fun e w' => e = .returned (.int .u8 (Pl.shade y)) ∧ w = w' := by
  have u0 := Pl.unit_lo y
  have u1 := Pl.unit_hi y
  go_enter Tryd.func42, Tryd.ntmps42
  go_wp2_with (first | (go_at_call 64; refine (unit_any _ _).mono ?_; rintro e w' ⟨rfl, rfl⟩))
  go_ret
  exact ⟨rfl, rfl⟩

theorem rshade_any (y : Int) (w : World) : Calls Tryd.prog 51 #[.int .i64 y] w fun e w' => e = .returned (.int .u8 (Pl.shade y)) ∧ w = w' := by
  have u0 := Pl.unit_lo y
  have u1 := Pl.unit_hi y
  go_enter Tryd.func51, Tryd.ntmps51
  go_wp2_with (first | (go_at_call 69; refine (refUnit_any _ _).mono ?_; rintro e w' ⟨rfl, rfl⟩))
  go_ret
  exact ⟨rfl, rfl⟩
end Go.Proofs.YtcohehekkeeeoaaDoor.Hv
