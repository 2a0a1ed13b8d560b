/- The contract of the document's own word on which tracks may be. -/
import Derived.Test.YtplcbdmiccpnnaaGreatC19
import Derived.Test.YtplcbdmiccpnnaaGreatC15
namespace Go.Proofs.YtplcbdmiccpnnaaGreat.Tk
open Go.RowKit Go.Proofs.YtplcbdmiccpnnaaGreat Go.Proofs.YtplcbdmiccpnnaaGreat.Wa Go.Proofs.YtplcbdmiccpnnaaGreat.Ve

theorem below_draws {B : Nat} {w wr : World} (h : Below B w wr) (k : Nat) : Below B w (wr.drewN k) := ⟨h.os, h.tape, h.output, h.size, h.block⟩

theorem ret_bool' {a b : Bool} (h : a = b) : Ending.returned (.bool a) = .returned (.bool b) := by rw [h]

theorem held_same (x : Int) (h : -2147483648 ≤ x ∧ x ≤ 2147483648) (w : World) : Calls Tryz.prog 83 #[.int .i64 x] w fun e w' => e = .returned (.int .i64 x) ∧ w = w' := by
  have := held_any x w
  rwa [Pl.held_in h.1 h.2] at this

theorem held_is (x v : Int) (h : Pl.held x = v) (w : World) : Calls Tryz.prog 83 #[.int .i64 x] w fun e w' => e = .returned (.int .i64 v) ∧ w = w' := by
  subst h; exact held_any x w

theorem held_out {x : Int} (h : ¬ (-2147483648 ≤ x ∧ x ≤ 2147483648)) : ¬ x = Pl.held x := by
  have := Pl.held_lo x; have := Pl.held_hi x; omega

theorem mayB_no {t x y z : Int} (h : ¬ ((0 ≤ t ∧ t ≤ 2097152) ∧ (-2147483648 ≤ x ∧ x ≤ 2147483648) ∧ (-2147483648 ≤ y ∧ y ≤ 2147483648) ∧ (-2147483648 ≤ z ∧ z ≤ 2147483648))) : mayB t x y z = false := decide_eq_false h

theorem rright_shape (way : Int) (a : Option Addr) (n cap : Nat) (h : ¬ (0 ≤ way ∧ way ≤ 2 ∧ 1 ≤ n ∧ n ≤ 16)) (hn : n ≤ 4611686018427387904) (w : World) :
    Calls Tryz.prog 55 #[.agg #[.int .i64 way, .slice a n cap]] w fun e w' => e = .returned (.bool false) ∧ Below w.heap.size w w' := by
  by_cases h1 : way < 0
  · clear h
    go_enter Tryz.func55, Tryz.ntmps55
    go_wp2
    go_ret
    exact ⟨rfl, below_n1 _ _⟩
  · by_cases h2 : 2 < way
    · clear h
      go_enter Tryz.func55, Tryz.ntmps55
      go_wp2
      go_ret
      exact ⟨rfl, below_n1 _ _⟩
    · by_cases h3 : n < 1
      · clear h
        have h3' : (n : Int) < 1 := by omega
        go_enter Tryz.func55, Tryz.ntmps55
        go_wp2
        go_ret
        exact ⟨rfl, below_n1 _ _⟩
      · have h4 : 16 < n := by omega
        have h3' : ¬ (n : Int) < 1 := by omega
        have h4' : (16 : Int) < n := by omega
        clear h
        go_enter Tryz.func55, Tryz.ntmps55
        go_wp2
        go_ret
        exact ⟨rfl, below_n1 _ _⟩

set_option maxHeartbeats 4000000 in
set_option maxRecDepth 100000 in
theorem rright_row (way : Int) (b off n cap : Nat) (L : Nat → Int) (h : 0 ≤ way ∧ way ≤ 2 ∧ 1 ≤ n ∧ n ≤ 16) (w : World) (hc : ∀ j, j < n * 4 → w.cell? ⟨b, off + j, none⟩ = some (.int .i64 (L j))) :
    Calls Tryz.prog 55 #[.agg #[.int .i64 way, .slice (some ⟨b, off, none⟩) n cap]] w fun e w' => e = .returned (.bool (rightB way n L)) ∧ Below w.heap.size w w' := by
  have HG := Lib.hid (fun ho => rightB_good (L := L) h ho)
  obtain ⟨h1, h2, h3, h4⟩ := h
  have HC := Lib.hid hc
  clear hc
  go_enter Tryz.func55, Tryz.ntmps55
  go_wp2_with fail
  go_loopw [3] (fun s wr => ∃ k : Nat, k ≤ n ∧ s = .int .i64 k ∧ Hid (okUpto L k = true) ∧ wr.cell? ⟨w.heap.size, 1, none⟩ = some (.slice (some ⟨b, off, none⟩) n cap) ∧ Below w.heap.size w wr) (fun s _ => n - (intOf s).toNat)
  case atStart => exact ⟨0, by omega, rfl, Lib.hid rfl, by go_simp, below_n1 _ _⟩
  case round =>
    obtain ⟨k, hk, rfl, HO, hbox, hbk⟩ := hrel
    have hs0 := World.block_lt_of_cell? _ _ hbox
    simp only at hs0
    by_cases hkn : k < n
    · obtain ⟨c0, c1, c2, c3⟩ := four_of HC.out hkn
      replace c0 := held_on hbk c0
      replace c1 := held_on hbk c1
      replace c2 := held_on hbk c2
      replace c3 := held_on hbk c3
      by_cases hT : 0 ≤ L (k * 4) ∧ L (k * 4) ≤ 2097152
      · obtain ⟨t1, t2⟩ := hT
        have d1 : decide (L (k * 4) < 0) = false := decide_eq_false (by omega)
        have d2 : decide (2097152 < L (k * 4)) = false := decide_eq_false (by omega)
        by_cases hk0 : k = 0
        · have hk2 : decide ((0 : Int) < (k : Int)) = false := decide_eq_false (by omega)
          have hk3 : decide (0 < k) = false := decide_eq_false (by omega)
          have HB := Lib.hid (show okKey L k = mayB (L (k * 4)) (L (k * 4 + 1)) (L (k * 4 + 2)) (L (k * 4 + 3)) by unfold okKey; rw [decide_eq_true hk0]; simp)
          clear hk0
          go_wp2_with fail
          go_quiet (fail)
          go_wp2
          refine wp_loop_rounds 4 ?_
          by_cases hx : -2147483648 ≤ L (k * 4 + 1) ∧ L (k * 4 + 1) ≤ 2147483648
          rotate_left
          · obtain ⟨v, hv⟩ : ∃ v, Pl.held (L (k * 4 + 1)) = v := ⟨_, rfl⟩
            have hne : ¬ L (k * 4 + 1) = v := by have := held_out hx; rw [hv] at this; exact this
            have hne' : (L (k * 4 + 1) != v) = true := by simpa using hne
            have HV := Lib.hid hv
            have HE := Lib.hid (show false = rightB way n L from (rightB_bad (k := k) (by rw [HB.out]; exact mayB_no (by intro hh; exact hx hh.2.1)) hkn).symm)
            clear hv hx
            rw [rounds_succ]
            go_wp2_with fail
            go_region_held3 (fun w' => w'.cell? ⟨wr.heap.size, 1, none⟩ = some (.int .i64 (L (k * 4 + 1)))) (first | (go_keep; done) | ((try dsimp only); go_simp; done)) (first | (go_at_call 83; refine (held_is _ v HV.out _).mono ?_; rintro e w9 ⟨rfl, rfl⟩))
            go_wp2
            go_ret
            exact ⟨ret_bool' HE.out, (by repeat (first | exact hbk | apply Below.drew | apply below_draws | (refine Below.alloc ?_ hbk.size _)))⟩
          rw [rounds_succ]
          go_wp2_with fail
          go_region_held3 (fun w' => w'.cell? ⟨wr.heap.size, 1, none⟩ = some (.int .i64 (L (k * 4 + 1)))) (first | (go_keep; done) | ((try dsimp only); go_simp; done)) (first | (go_at_call 83; refine (held_same _ hx _).mono ?_; rintro e w9 ⟨rfl, rfl⟩))
          go_wp2
          by_cases hy : -2147483648 ≤ L (k * 4 + 2) ∧ L (k * 4 + 2) ≤ 2147483648
          rotate_left
          · obtain ⟨v, hv⟩ : ∃ v, Pl.held (L (k * 4 + 2)) = v := ⟨_, rfl⟩
            have hne : ¬ L (k * 4 + 2) = v := by have := held_out hy; rw [hv] at this; exact this
            have hne' : (L (k * 4 + 2) != v) = true := by simpa using hne
            have HV := Lib.hid hv
            have HE := Lib.hid (show false = rightB way n L from (rightB_bad (k := k) (by rw [HB.out]; exact mayB_no (by intro hh; exact hy hh.2.2.1)) hkn).symm)
            clear hv hy
            rw [rounds_succ]
            go_wp2_with fail
            go_region_held3 (fun w' => w'.cell? ⟨wr.heap.size, 2, none⟩ = some (.int .i64 (L (k * 4 + 2)))) (first | (go_keep; done) | ((try dsimp only); go_simp; done)) (first | (go_at_call 83; refine (held_is _ v HV.out _).mono ?_; rintro e w9 ⟨rfl, rfl⟩))
            go_wp2
            go_ret
            exact ⟨ret_bool' HE.out, (by repeat (first | exact hbk | apply Below.drew | apply below_draws | (refine Below.alloc ?_ hbk.size _)))⟩
          rw [rounds_succ]
          go_wp2_with fail
          go_region_held3 (fun w' => w'.cell? ⟨wr.heap.size, 2, none⟩ = some (.int .i64 (L (k * 4 + 2)))) (first | (go_keep; done) | ((try dsimp only); go_simp; done)) (first | (go_at_call 83; refine (held_same _ hy _).mono ?_; rintro e w9 ⟨rfl, rfl⟩))
          go_wp2
          by_cases hz : -2147483648 ≤ L (k * 4 + 3) ∧ L (k * 4 + 3) ≤ 2147483648
          rotate_left
          · obtain ⟨v, hv⟩ : ∃ v, Pl.held (L (k * 4 + 3)) = v := ⟨_, rfl⟩
            have hne : ¬ L (k * 4 + 3) = v := by have := held_out hz; rw [hv] at this; exact this
            have hne' : (L (k * 4 + 3) != v) = true := by simpa using hne
            have HV := Lib.hid hv
            have HE := Lib.hid (show false = rightB way n L from (rightB_bad (k := k) (by rw [HB.out]; exact mayB_no (by intro hh; exact hz hh.2.2.2)) hkn).symm)
            clear hv hz
            rw [rounds_succ]
            go_wp2_with fail
            go_region_held3 (fun w' => w'.cell? ⟨wr.heap.size, 3, none⟩ = some (.int .i64 (L (k * 4 + 3)))) (first | (go_keep; done) | ((try dsimp only); go_simp; done)) (first | (go_at_call 83; refine (held_is _ v HV.out _).mono ?_; rintro e w9 ⟨rfl, rfl⟩))
            go_wp2
            go_ret
            exact ⟨ret_bool' HE.out, (by repeat (first | exact hbk | apply Below.drew | apply below_draws | (refine Below.alloc ?_ hbk.size _)))⟩
          rw [rounds_succ]
          go_wp2_with fail
          go_region_held3 (fun w' => w'.cell? ⟨wr.heap.size, 3, none⟩ = some (.int .i64 (L (k * 4 + 3)))) (first | (go_keep; done) | ((try dsimp only); go_simp; done)) (first | (go_at_call 83; refine (held_same _ hz _).mono ?_; rintro e w9 ⟨rfl, rfl⟩))
          go_wp2
          have HO1 := Lib.hid (show okUpto L (k + 1) = true by unfold okUpto; rw [HO.out, HB.out, mayB_true.2 ⟨⟨t1, t2⟩, hx, hy, hz⟩]; rfl)
          rw [rounds_succ]
          go_wp2
          go_roundw
          case rel => exact ⟨k + 1, by omega, by go_num, HO1, by go_simp, (by repeat (first | exact hbk | apply Below.drew | apply below_draws | (refine Below.alloc ?_ hbk.size _)))⟩
          case measure => simp [intOf]; omega
        · obtain ⟨m, hm⟩ : ∃ m, k = m + 1 := ⟨k - 1, by omega⟩
          have hk1 : 0 < k := by omega
          have hk2 : (0 : Int) < k := by omega
          have d3 : decide ((0 : Int) < k) = true := decide_eq_true hk2
          have d3' : decide (0 < k) = true := decide_eq_true hk1
          have hmn : m < n := by omega
          have m1 : IntKind.i64.wrap (m : Int) = (m : Int) := IntWalk.i64_in _ (by omega)
          have m2 : (k : Int) - 1 = (m : Int) := by omega
          have m3 : (0 : Int) ≤ (m : Int) := by omega
          have hmn' : (m : Int) < n := by omega
          have m4 : ((m : Nat) : Int).toNat = m := by simp
          have p0 := held_on hbk ((four_of HC.out hmn).1)
          have hbw : b < wr.heap.size := World.block_lt_of_cell? _ _ p0
          have hbw' : ¬ b = wr.heap.size := by omega
          have HK := Lib.hid (show okKey L k = (mayB (L (k * 4)) (L (k * 4 + 1)) (L (k * 4 + 2)) (L (k * 4 + 3)) && decide (L (m * 4) < L (k * 4))) by unfold okKey; rw [hm]; simp)
          clear hm hk0
          by_cases ht : L (m * 4) < L (k * 4)
          · have ht' : ¬ L (k * 4) ≤ L (m * 4) := by omega
            have d4 : decide (L (k * 4) ≤ L (m * 4)) = false := decide_eq_false ht'
            have HB := Lib.hid (show okKey L k = mayB (L (k * 4)) (L (k * 4 + 1)) (L (k * 4 + 2)) (L (k * 4 + 3)) by rw [HK.out, decide_eq_true ht]; simp)
            go_wp2_with fail
            go_quiet (fail)
            go_wp2
            refine wp_loop_rounds 4 ?_
            by_cases hx : -2147483648 ≤ L (k * 4 + 1) ∧ L (k * 4 + 1) ≤ 2147483648
            rotate_left
            · obtain ⟨v, hv⟩ : ∃ v, Pl.held (L (k * 4 + 1)) = v := ⟨_, rfl⟩
              have hne : ¬ L (k * 4 + 1) = v := by have := held_out hx; rw [hv] at this; exact this
              have hne' : (L (k * 4 + 1) != v) = true := by simpa using hne
              have HV := Lib.hid hv
              have HE := Lib.hid (show false = rightB way n L from (rightB_bad (k := k) (by rw [HB.out]; exact mayB_no (by intro hh; exact hx hh.2.1)) hkn).symm)
              clear hv hx
              rw [rounds_succ]
              go_wp2_with fail
              go_region_held3 (fun w' => w'.cell? ⟨wr.heap.size, 1, none⟩ = some (.int .i64 (L (k * 4 + 1)))) (first | (go_keep; done) | ((try dsimp only); go_simp; done)) (first | (go_at_call 83; refine (held_is _ v HV.out _).mono ?_; rintro e w9 ⟨rfl, rfl⟩))
              go_wp2
              go_ret
              exact ⟨ret_bool' HE.out, (by repeat (first | exact hbk | apply Below.drew | apply below_draws | (refine Below.alloc ?_ hbk.size _)))⟩
            rw [rounds_succ]
            go_wp2_with fail
            go_region_held3 (fun w' => w'.cell? ⟨wr.heap.size, 1, none⟩ = some (.int .i64 (L (k * 4 + 1)))) (first | (go_keep; done) | ((try dsimp only); go_simp; done)) (first | (go_at_call 83; refine (held_same _ hx _).mono ?_; rintro e w9 ⟨rfl, rfl⟩))
            go_wp2
            by_cases hy : -2147483648 ≤ L (k * 4 + 2) ∧ L (k * 4 + 2) ≤ 2147483648
            rotate_left
            · obtain ⟨v, hv⟩ : ∃ v, Pl.held (L (k * 4 + 2)) = v := ⟨_, rfl⟩
              have hne : ¬ L (k * 4 + 2) = v := by have := held_out hy; rw [hv] at this; exact this
              have hne' : (L (k * 4 + 2) != v) = true := by simpa using hne
              have HV := Lib.hid hv
              have HE := Lib.hid (show false = rightB way n L from (rightB_bad (k := k) (by rw [HB.out]; exact mayB_no (by intro hh; exact hy hh.2.2.1)) hkn).symm)
              clear hv hy
              rw [rounds_succ]
              go_wp2_with fail
              go_region_held3 (fun w' => w'.cell? ⟨wr.heap.size, 2, none⟩ = some (.int .i64 (L (k * 4 + 2)))) (first | (go_keep; done) | ((try dsimp only); go_simp; done)) (first | (go_at_call 83; refine (held_is _ v HV.out _).mono ?_; rintro e w9 ⟨rfl, rfl⟩))
              go_wp2
              go_ret
              exact ⟨ret_bool' HE.out, (by repeat (first | exact hbk | apply Below.drew | apply below_draws | (refine Below.alloc ?_ hbk.size _)))⟩
            rw [rounds_succ]
            go_wp2_with fail
            go_region_held3 (fun w' => w'.cell? ⟨wr.heap.size, 2, none⟩ = some (.int .i64 (L (k * 4 + 2)))) (first | (go_keep; done) | ((try dsimp only); go_simp; done)) (first | (go_at_call 83; refine (held_same _ hy _).mono ?_; rintro e w9 ⟨rfl, rfl⟩))
            go_wp2
            by_cases hz : -2147483648 ≤ L (k * 4 + 3) ∧ L (k * 4 + 3) ≤ 2147483648
            rotate_left
            · obtain ⟨v, hv⟩ : ∃ v, Pl.held (L (k * 4 + 3)) = v := ⟨_, rfl⟩
              have hne : ¬ L (k * 4 + 3) = v := by have := held_out hz; rw [hv] at this; exact this
              have hne' : (L (k * 4 + 3) != v) = true := by simpa using hne
              have HV := Lib.hid hv
              have HE := Lib.hid (show false = rightB way n L from (rightB_bad (k := k) (by rw [HB.out]; exact mayB_no (by intro hh; exact hz hh.2.2.2)) hkn).symm)
              clear hv hz
              rw [rounds_succ]
              go_wp2_with fail
              go_region_held3 (fun w' => w'.cell? ⟨wr.heap.size, 3, none⟩ = some (.int .i64 (L (k * 4 + 3)))) (first | (go_keep; done) | ((try dsimp only); go_simp; done)) (first | (go_at_call 83; refine (held_is _ v HV.out _).mono ?_; rintro e w9 ⟨rfl, rfl⟩))
              go_wp2
              go_ret
              exact ⟨ret_bool' HE.out, (by repeat (first | exact hbk | apply Below.drew | apply below_draws | (refine Below.alloc ?_ hbk.size _)))⟩
            rw [rounds_succ]
            go_wp2_with fail
            go_region_held3 (fun w' => w'.cell? ⟨wr.heap.size, 3, none⟩ = some (.int .i64 (L (k * 4 + 3)))) (first | (go_keep; done) | ((try dsimp only); go_simp; done)) (first | (go_at_call 83; refine (held_same _ hz _).mono ?_; rintro e w9 ⟨rfl, rfl⟩))
            go_wp2
            have HO1 := Lib.hid (show okUpto L (k + 1) = true by unfold okUpto; rw [HO.out, HB.out, mayB_true.2 ⟨⟨t1, t2⟩, hx, hy, hz⟩]; rfl)
            rw [rounds_succ]
            go_wp2
            go_roundw
            case rel => exact ⟨k + 1, by omega, by go_num, HO1, by go_simp, (by repeat (first | exact hbk | apply Below.drew | apply below_draws | (refine Below.alloc ?_ hbk.size _)))⟩
            case measure => simp [intOf]; omega
          · have ht' : L (k * 4) ≤ L (m * 4) := by omega
            have d4 : decide (L (k * 4) ≤ L (m * 4)) = true := decide_eq_true ht'
            have HE := Lib.hid (show false = rightB way n L from (rightB_bad (k := k) (by rw [HK.out, decide_eq_false ht]; simp) hkn).symm)
            go_wp2_with fail
            go_quiet (fail)
            go_wp2
            go_ret
            exact ⟨ret_bool' HE.out, (by repeat (first | exact hbk | apply Below.drew | apply below_draws | (refine Below.alloc ?_ hbk.size _)))⟩
      · have HE := Lib.hid (show false = rightB way n L from (rightB_bad (k := k) (by unfold okKey mayB; rw [decide_eq_false (fun hh => hT hh.1)]; rfl) hkn).symm)
        by_cases t1 : L (k * 4) < 0
        · have d1 : decide (L (k * 4) < 0) = true := decide_eq_true t1
          clear hT
          go_wp2_with fail
          go_quiet (fail)
          go_wp2
          go_ret
          exact ⟨ret_bool' HE.out, (by repeat (first | exact hbk | apply Below.drew | apply below_draws | (refine Below.alloc ?_ hbk.size _)))⟩
        · have t2 : 2097152 < L (k * 4) := by omega
          have d1 : decide (L (k * 4) < 0) = false := decide_eq_false t1
          have d2 : decide (2097152 < L (k * 4)) = true := decide_eq_true t2
          clear hT
          go_wp2_with fail
          go_quiet (fail)
          go_wp2
          go_ret
          exact ⟨ret_bool' HE.out, (by repeat (first | exact hbk | apply Below.drew | apply below_draws | (refine Below.alloc ?_ hbk.size _)))⟩
    · have HE := Lib.hid (show true = rightB way n L from (HG.out (by rw [show n = k by omega]; exact HO.out)).symm)
      go_wp2
      go_ret
      exact ⟨ret_bool' HE.out, hbk⟩

theorem rright_any (way : Int) (a : Option Addr) (n cap : Nat) (L : Nat → Int) (w : World) (hr : KeysAt w a n L) :
    Calls Tryz.prog 55 #[.agg #[.int .i64 way, .slice a n cap]] w fun e w' => e = .returned (.bool (rightB way n L)) ∧ Below w.heap.size w w' := by
  obtain ⟨h0, hr⟩ := hr
  by_cases h : 0 ≤ way ∧ way ≤ 2 ∧ 1 ≤ n ∧ n ≤ 16
  · rcases hr with h' | ⟨b, off, rfl, -, hc⟩
    · omega
    · exact rright_row way b off n cap L h w hc
  · rw [rightB_shape h]; exact rright_shape way a n cap h (by omega) w
end Go.Proofs.YtplcbdmiccpnnaaGreat.Tk
