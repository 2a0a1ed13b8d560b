/- Films whose numbers lie in layer 1's span: the law's Held (alone; XFz holds more). -/
import Derived.Test.YtgpbnpnnbipfpaaE28
import Derived.Test.YtgpbnpnnbipfpaaE10
import Derived.BigQuiet
namespace Go.Proofs.Ytgpbnpnnbipfpaa.Fm
open Go Go.RowKit Go.Proofs.Ytgpbnpnnbipfpaa Go.Proofs.Ytgpbnpnnbipfpaa.Rp Go.Proofs.Ytgpbnpnnbipfpaa.Re Go.Proofs.Ytgpbnpnnbipfpaa.Au Go.Proofs.Ytgpbnpnnbipfpaa.Jw
set_option linter.unusedVariables false
set_option linter.unusedSimpArgs false

def span (L : Nat → Int) (n : Nat) : Prop := ∀ j, j < n → -2147483648 ≤ L j ∧ L j ≤ 2147483648

structure SpanF (f : Flm) : Prop where
  L : span f.L (f.nl * 3)
  D : span f.D f.nd
  N : span f.N (f.nn * 3)
  B : span f.B (f.nb * 3)

def In (x : Int) : Prop := -2147483648 ≤ x ∧ x ≤ 2147483648

theorem in_held {x z : Int} (h : x = z) (hz : z = Pl.held x) : In x := by
  have a := Pl.held_lo x
  have b := Pl.held_hi x
  unfold In
  omega

theorem span_zero (L : Nat → Int) : span L 0 := fun j hj => absurd hj (by omega)

theorem span_one {L : Nat → Int} {k : Nat} (h : span L k) (hx : In (L k)) : span L (k + 1) := fun j hj => by
  by_cases e : j = k
  · subst e; exact hx
  · exact h j (by omega)

theorem span_three {L : Nat → Int} {k : Nat} (h : span L (k * 3)) (h0 : In (L (k * 3))) (h1 : In (L (k * 3 + 1))) (h2 : In (L (k * 3 + 2))) : span L ((k + 1) * 3) := by
  rw [show (k + 1) * 3 = k * 3 + 1 + 1 + 1 by omega]
  exact span_one (span_one (span_one h h0) h1) h2

set_option maxHeartbeats 16000000 in
set_option maxRecDepth 100000 in
theorem held_letters (W H : Int) (al ad an ab ax af : Option Addr) (cl cd cn cb cx cf nl nd nn nb ns nf : Nat) (L D N B S F : Nat → Int) (w : World) (hl : Rw 3 w al nl L) (hd : Rw 1 w ad nd D) (hn : Rw 3 w an nn N) (hb : Rw 3 w ab nb B) (bl : nl * 24 ≤ 140737488351232) (bd : nd * 8 ≤ 140737488351232) (bn : nn * 24 ≤ 140737488351232) (bb : nb * 24 ≤ 140737488351232) : Calls Try.prog 17 #[.agg #[.int .i64 W, .int .i64 H, .slice al nl cl, .slice ad nd cd, .slice an nn cn, .slice ab nb cb, .slice ax ns cx, .slice af nf cf]] w fun e' w' => (∃ t : Bool, e' = .returned (.bool t) ∧ (t = true → SpanF (⟨W, H, nl, nd, nn, nb, ns, nf, L, D, N, B, S, F⟩ : Flm)) ∧ Below w.heap.size w w') := by
  have HL_ := Lib.hid hl
  clear hl
  have HD_ := Lib.hid hd
  clear hd
  have HN_ := Lib.hid hn
  clear hn
  have HB_ := Lib.hid hb
  clear hb
  go_enter Try.func17, Try.ntmps17
  go_upto_region 1 with fail
  have hR := Au.rows1 w (.cells #[.int .i64 W, .int .i64 H, .slice al nl cl, .slice ad nd cd, .slice an nn cn, .slice ab nb cb, .slice ax ns cx, .slice af nf cf] 29)
  have HUx := Ve.below_n1 w (.cells #[.int .i64 W, .int .i64 H, .slice al nl cl, .slice ad nd cd, .slice an nn cn, .slice ab nb cb, .slice ax ns cx, .slice af nf cf] 29)
  obtain ⟨y0, hy0⟩ : ∃ y0, w.alloc (.cells #[.int .i64 W, .int .i64 H, .slice al nl cl, .slice ad nd cd, .slice an nn cn, .slice ab nb cb, .slice ax ns cx, .slice af nf cf] 29) = y0 := ⟨_, rfl⟩
  rw [hy0] at hR HUx ⊢
  clear hy0
  have HU0 := Lib.hid HUx
  clear HUx
  have hr0_0 := hR
  clear hR
  have c0_0 := cell_of_row _ _ 0 _ _ _ hr0_0
  have c0_1 := cell_of_row _ _ 1 _ _ _ hr0_0
  have c0_2 := cell_of_row _ _ 2 _ _ _ hr0_0
  have c0_3 := cell_of_row _ _ 3 _ _ _ hr0_0
  have c0_4 := cell_of_row _ _ 4 _ _ _ hr0_0
  have c0_5 := cell_of_row _ _ 5 _ _ _ hr0_0
  have c0_6 := cell_of_row _ _ 6 _ _ _ hr0_0
  have c0_7 := cell_of_row _ _ 7 _ _ _ hr0_0
  simp at c0_0 c0_1 c0_2 c0_3 c0_4 c0_5 c0_6 c0_7
  have HW := Lib.hid (Below.refl y0.heap.size y0)
  go_wp2_with fail
  clear c0_0 c0_1 c0_2 c0_3 c0_4 c0_5 c0_6 c0_7
  go_loopw [18] (fun ix wr => ∃ k : Nat, k ≤ nd ∧ ix = .int .i64 k ∧ Hid (span D k) ∧ Hid (Below y0.heap.size y0 wr)) (fun ix _ => nd - (intOf ix).toNat)
  case atStart => exact ⟨0, Nat.zero_le _, rfl, Lib.hid (span_zero _), HW⟩
  case round =>
    clear HW
    obtain ⟨k1, hk1, rfl, HS1, HW⟩ := hrel
    have hww := HU0.out.trans (HW.out.mono HU0.out.size)
    by_cases hlt : k1 < nd
    · have hlt' : (k1 : Int) < nd := by omega
      obtain ⟨sb, so, hsa, e0⟩ := (HD_.out.on hww).at1 hlt
      subst hsa
      obtain ⟨x0, hx0⟩ : ∃ x, x = D k1 := ⟨_, rfl⟩
      rw [← hx0] at e0
      have HX0 := Lib.hid hx0
      clear hx0
      obtain ⟨z, hz⟩ : ∃ z, z = Pl.held x0 := ⟨_, rfl⟩
      have HZ : ∀ W : World, Calls Try.prog 19 #[.int .i64 x0] W (fun e w' => e = .returned (.int .i64 z) ∧ W = w') := fun W => by rw [hz]; exact Wa.held_any x0 W
      by_cases hxy : x0 = z
      · have HIN := Lib.hid (in_held hxy hz)
        clear hz
        subst hxy
        go_wp2_with (go_at_call 19; refine (HZ _).mono ?_; rintro e w' ⟨rfl, rfl⟩)
        have HT := Lib.hid (show span D (k1 + 1) from span_one HS1.out (by rw [← HX0.out]; exact HIN.out))
        go_roundw
        case rel => exact ⟨k1 + 1, by omega, by go_num, HT, HW⟩
        case measure => simp [intOf]; omega
      · clear hz
        go_wp2_with (go_at_call 19; refine (HZ _).mono ?_; rintro e w' ⟨rfl, rfl⟩)
        exact bodyPost_ret (v := .bool false) (by simp [results, Try.results17, go_sem]) rfl ⟨false, rfl, fun h => absurd h (by decide), hww⟩
    · have hge : ¬ (k1 : Int) < nd := by omega
      have HSPD := Lib.hid (show span D nd by rw [← show k1 = nd by omega]; exact HS1.out)
      clear hlt
      have d1 := cell_of_row _ _ 2 _ _ _ ((HW.out.block _ (lt_heap hr0_0)).trans hr0_0)
      simp at d1
      have d2 := cell_of_row _ _ 5 _ _ _ ((HW.out.block _ (lt_heap hr0_0)).trans hr0_0)
      simp at d2
      go_wp2_with fail
      go_loopw [33] (fun ix wr => ∃ k : Int, (k = 0 ∨ k = 1 ∨ k = 2) ∧ ix = .int .i64 k ∧ Hid (1 ≤ k → span L (nl * 3)) ∧ Hid (2 ≤ k → span B (nb * 3)) ∧ Hid (Below y0.heap.size y0 wr)) (fun ix _ => 2 - (intOf ix).toNat)
      case atStart => exact ⟨0, .inl rfl, rfl, Lib.hid (fun h => absurd h (by omega)), Lib.hid (fun h => absurd h (by omega)), HW⟩
      case round =>
        clear HW hww d1 d2
        obtain ⟨k8, hk8, rfl, HQ1, HQ2, HW⟩ := hrel
        have hww := HU0.out.trans (HW.out.mono HU0.out.size)
        rcases hk8 with hk8 | hk8 | hk8
        · subst hk8
          have HIX : ∀ W : World, (Instr.index 79 (.agg #[.slice al nl cl, .slice ab nb cb]) (.int .i64 0)).run Try.prog W = .ok (.slice al nl cl) W := fun W => by simp [Instr.index, go_sem]
          go_wp2_with fail
          go_loopw [38] (fun ix wr => ∃ k : Nat, k ≤ nl ∧ ix = .int .i64 k ∧ Hid (span L (k * 3)) ∧ Hid (Below y0.heap.size y0 wr)) (fun ix _ => nl - (intOf ix).toNat)
          case atStart => exact ⟨0, Nat.zero_le _, rfl, Lib.hid (by rw [Nat.zero_mul]; exact span_zero _), HW⟩
          case round =>
            clear HW
            obtain ⟨k2, hk2, rfl, HS2, HW⟩ := hrel
            have hww := HU0.out.trans (HW.out.mono HU0.out.size)
            by_cases hlt : k2 < nl
            · have hlt' : (k2 : Int) < nl := by omega
              obtain ⟨sb, so, hsa, e0, e1, e2⟩ := (HL_.out.on hww).at3 hlt
              subst hsa
              obtain ⟨x0, hx0⟩ : ∃ x, x = L (k2 * 3) := ⟨_, rfl⟩
              rw [← hx0] at e0
              have HX0 := Lib.hid hx0
              clear hx0
              obtain ⟨x1, hx1⟩ : ∃ x, x = L (k2 * 3 + 1) := ⟨_, rfl⟩
              rw [← hx1] at e1
              have HX1 := Lib.hid hx1
              clear hx1
              obtain ⟨x2, hx2⟩ : ∃ x, x = L (k2 * 3 + 2) := ⟨_, rfl⟩
              rw [← hx2] at e2
              have HX2 := Lib.hid hx2
              clear hx2
              go_wp2_with fail
              go_loopw [43] (fun ix wr => ∃ k : Int, (k = 0 ∨ k = 1 ∨ k = 2 ∨ k = 3) ∧ ix = .int .i64 k ∧ Hid (1 ≤ k → In x0) ∧ Hid (2 ≤ k → In x1) ∧ Hid (3 ≤ k → In x2) ∧ Hid (Below y0.heap.size y0 wr)) (fun ix _ => 3 - (intOf ix).toNat)
              case atStart => exact ⟨0, .inl rfl, rfl, Lib.hid (fun h => absurd h (by omega)), Lib.hid (fun h => absurd h (by omega)), Lib.hid (fun h => absurd h (by omega)), Lib.hid (HW.out.trans ((Ve.below_n1 _ _).mono HW.out.size))⟩
              case round =>
                clear HW hww e0 e1 e2
                obtain ⟨k9, hk9, rfl, HI0, HI1, HI2, HW⟩ := hrel
                have hww := HU0.out.trans (HW.out.mono HU0.out.size)
                rcases hk9 with hk9 | hk9 | hk9 | hk9
                · subst hk9
                  have HJX : ∀ W : World, (Instr.index 56 (.agg #[.int .i64 x0, .int .i64 x1, .int .i64 x2]) (.int .i64 0)).run Try.prog W = .ok (.int .i64 x0) W := fun W => by simp [Instr.index, go_sem]
                  obtain ⟨z, hz⟩ : ∃ z, z = Pl.held x0 := ⟨_, rfl⟩
                  have HZ : ∀ W : World, Calls Try.prog 19 #[.int .i64 x0] W (fun e w' => e = .returned (.int .i64 z) ∧ W = w') := fun W => by rw [hz]; exact Wa.held_any x0 W
                  by_cases hxy : x0 = z
                  · have HIN := Lib.hid (in_held hxy hz)
                    clear hz
                    subst hxy
                    go_wp2_with (go_at_call 19; refine (HZ _).mono ?_; rintro e w' ⟨rfl, rfl⟩)
                    go_roundw
                    case rel => exact ⟨1, by omega, by first | rfl | go_num, Lib.hid (fun _ => HIN.out), Lib.hid (fun h => absurd h (by omega)), Lib.hid (fun h => absurd h (by omega)), HW⟩
                    case measure => simp [intOf]
                  · clear hz
                    go_wp2_with (go_at_call 19; refine (HZ _).mono ?_; rintro e w' ⟨rfl, rfl⟩)
                    exact bodyPost_ret (v := .bool false) (by simp [results, Try.results17, go_sem]) rfl ⟨false, rfl, fun h => absurd h (by decide), hww⟩
                · subst hk9
                  have HJX : ∀ W : World, (Instr.index 56 (.agg #[.int .i64 x0, .int .i64 x1, .int .i64 x2]) (.int .i64 1)).run Try.prog W = .ok (.int .i64 x1) W := fun W => by simp [Instr.index, go_sem]
                  obtain ⟨z, hz⟩ : ∃ z, z = Pl.held x1 := ⟨_, rfl⟩
                  have HZ : ∀ W : World, Calls Try.prog 19 #[.int .i64 x1] W (fun e w' => e = .returned (.int .i64 z) ∧ W = w') := fun W => by rw [hz]; exact Wa.held_any x1 W
                  by_cases hxy : x1 = z
                  · have HIN := Lib.hid (in_held hxy hz)
                    clear hz
                    subst hxy
                    go_wp2_with (go_at_call 19; refine (HZ _).mono ?_; rintro e w' ⟨rfl, rfl⟩)
                    go_roundw
                    case rel => exact ⟨2, by omega, by first | rfl | go_num, Lib.hid (fun _ => HI0.out (by omega)), Lib.hid (fun _ => HIN.out), Lib.hid (fun h => absurd h (by omega)), HW⟩
                    case measure => simp [intOf]
                  · clear hz
                    go_wp2_with (go_at_call 19; refine (HZ _).mono ?_; rintro e w' ⟨rfl, rfl⟩)
                    exact bodyPost_ret (v := .bool false) (by simp [results, Try.results17, go_sem]) rfl ⟨false, rfl, fun h => absurd h (by decide), hww⟩
                · subst hk9
                  have HJX : ∀ W : World, (Instr.index 56 (.agg #[.int .i64 x0, .int .i64 x1, .int .i64 x2]) (.int .i64 2)).run Try.prog W = .ok (.int .i64 x2) W := fun W => by simp [Instr.index, go_sem]
                  obtain ⟨z, hz⟩ : ∃ z, z = Pl.held x2 := ⟨_, rfl⟩
                  have HZ : ∀ W : World, Calls Try.prog 19 #[.int .i64 x2] W (fun e w' => e = .returned (.int .i64 z) ∧ W = w') := fun W => by rw [hz]; exact Wa.held_any x2 W
                  by_cases hxy : x2 = z
                  · have HIN := Lib.hid (in_held hxy hz)
                    clear hz
                    subst hxy
                    go_wp2_with (go_at_call 19; refine (HZ _).mono ?_; rintro e w' ⟨rfl, rfl⟩)
                    go_roundw
                    case rel => exact ⟨3, by omega, by first | rfl | go_num, Lib.hid (fun _ => HI0.out (by omega)), Lib.hid (fun _ => HI1.out (by omega)), Lib.hid (fun _ => HIN.out), HW⟩
                    case measure => simp [intOf]
                  · clear hz
                    go_wp2_with (go_at_call 19; refine (HZ _).mono ?_; rintro e w' ⟨rfl, rfl⟩)
                    exact bodyPost_ret (v := .bool false) (by simp [results, Try.results17, go_sem]) rfl ⟨false, rfl, fun h => absurd h (by decide), hww⟩
                · subst hk9
                  have HT := Lib.hid (show span L ((k2 + 1) * 3) from span_three HS2.out (by rw [← HX0.out]; exact HI0.out (by omega)) (by rw [← HX1.out]; exact HI1.out (by omega)) (by rw [← HX2.out]; exact HI2.out (by omega)))
                  go_wp2_with fail
                  go_roundw
                  case rel => exact ⟨k2 + 1, by omega, by go_num, HT, HW⟩
                  case measure => simp [intOf]; omega
            · have hge : ¬ (k2 : Int) < nl := by omega
              have HSPL := Lib.hid (show span L (nl * 3) by rw [← show k2 = nl by omega]; exact HS2.out)
              clear hlt
              go_wp2_with fail
              go_roundw
              case rel => exact ⟨1, by omega, by first | rfl | go_num, Lib.hid (fun _ => HSPL.out), Lib.hid (fun h => absurd h (by omega)), HW⟩
              case measure => simp [intOf]
        · subst hk8
          have HIX : ∀ W : World, (Instr.index 79 (.agg #[.slice al nl cl, .slice ab nb cb]) (.int .i64 1)).run Try.prog W = .ok (.slice ab nb cb) W := fun W => by simp [Instr.index, go_sem]
          go_wp2_with fail
          go_loopw [38] (fun ix wr => ∃ k : Nat, k ≤ nb ∧ ix = .int .i64 k ∧ Hid (span B (k * 3)) ∧ Hid (Below y0.heap.size y0 wr)) (fun ix _ => nb - (intOf ix).toNat)
          case atStart => exact ⟨0, Nat.zero_le _, rfl, Lib.hid (by rw [Nat.zero_mul]; exact span_zero _), HW⟩
          case round =>
            clear HW
            obtain ⟨k3, hk3, rfl, HS3, HW⟩ := hrel
            have hww := HU0.out.trans (HW.out.mono HU0.out.size)
            by_cases hlt : k3 < nb
            · have hlt' : (k3 : Int) < nb := by omega
              obtain ⟨sb, so, hsa, e0, e1, e2⟩ := (HB_.out.on hww).at3 hlt
              subst hsa
              obtain ⟨x0, hx0⟩ : ∃ x, x = B (k3 * 3) := ⟨_, rfl⟩
              rw [← hx0] at e0
              have HX0 := Lib.hid hx0
              clear hx0
              obtain ⟨x1, hx1⟩ : ∃ x, x = B (k3 * 3 + 1) := ⟨_, rfl⟩
              rw [← hx1] at e1
              have HX1 := Lib.hid hx1
              clear hx1
              obtain ⟨x2, hx2⟩ : ∃ x, x = B (k3 * 3 + 2) := ⟨_, rfl⟩
              rw [← hx2] at e2
              have HX2 := Lib.hid hx2
              clear hx2
              go_wp2_with fail
              go_loopw [43] (fun ix wr => ∃ k : Int, (k = 0 ∨ k = 1 ∨ k = 2 ∨ k = 3) ∧ ix = .int .i64 k ∧ Hid (1 ≤ k → In x0) ∧ Hid (2 ≤ k → In x1) ∧ Hid (3 ≤ k → In x2) ∧ Hid (Below y0.heap.size y0 wr)) (fun ix _ => 3 - (intOf ix).toNat)
              case atStart => exact ⟨0, .inl rfl, rfl, Lib.hid (fun h => absurd h (by omega)), Lib.hid (fun h => absurd h (by omega)), Lib.hid (fun h => absurd h (by omega)), Lib.hid (HW.out.trans ((Ve.below_n1 _ _).mono HW.out.size))⟩
              case round =>
                clear HW hww e0 e1 e2
                obtain ⟨k9, hk9, rfl, HI0, HI1, HI2, HW⟩ := hrel
                have hww := HU0.out.trans (HW.out.mono HU0.out.size)
                rcases hk9 with hk9 | hk9 | hk9 | hk9
                · subst hk9
                  have HJX : ∀ W : World, (Instr.index 56 (.agg #[.int .i64 x0, .int .i64 x1, .int .i64 x2]) (.int .i64 0)).run Try.prog W = .ok (.int .i64 x0) W := fun W => by simp [Instr.index, go_sem]
                  obtain ⟨z, hz⟩ : ∃ z, z = Pl.held x0 := ⟨_, rfl⟩
                  have HZ : ∀ W : World, Calls Try.prog 19 #[.int .i64 x0] W (fun e w' => e = .returned (.int .i64 z) ∧ W = w') := fun W => by rw [hz]; exact Wa.held_any x0 W
                  by_cases hxy : x0 = z
                  · have HIN := Lib.hid (in_held hxy hz)
                    clear hz
                    subst hxy
                    go_wp2_with (go_at_call 19; refine (HZ _).mono ?_; rintro e w' ⟨rfl, rfl⟩)
                    go_roundw
                    case rel => exact ⟨1, by omega, by first | rfl | go_num, Lib.hid (fun _ => HIN.out), Lib.hid (fun h => absurd h (by omega)), Lib.hid (fun h => absurd h (by omega)), HW⟩
                    case measure => simp [intOf]
                  · clear hz
                    go_wp2_with (go_at_call 19; refine (HZ _).mono ?_; rintro e w' ⟨rfl, rfl⟩)
                    exact bodyPost_ret (v := .bool false) (by simp [results, Try.results17, go_sem]) rfl ⟨false, rfl, fun h => absurd h (by decide), hww⟩
                · subst hk9
                  have HJX : ∀ W : World, (Instr.index 56 (.agg #[.int .i64 x0, .int .i64 x1, .int .i64 x2]) (.int .i64 1)).run Try.prog W = .ok (.int .i64 x1) W := fun W => by simp [Instr.index, go_sem]
                  obtain ⟨z, hz⟩ : ∃ z, z = Pl.held x1 := ⟨_, rfl⟩
                  have HZ : ∀ W : World, Calls Try.prog 19 #[.int .i64 x1] W (fun e w' => e = .returned (.int .i64 z) ∧ W = w') := fun W => by rw [hz]; exact Wa.held_any x1 W
                  by_cases hxy : x1 = z
                  · have HIN := Lib.hid (in_held hxy hz)
                    clear hz
                    subst hxy
                    go_wp2_with (go_at_call 19; refine (HZ _).mono ?_; rintro e w' ⟨rfl, rfl⟩)
                    go_roundw
                    case rel => exact ⟨2, by omega, by first | rfl | go_num, Lib.hid (fun _ => HI0.out (by omega)), Lib.hid (fun _ => HIN.out), Lib.hid (fun h => absurd h (by omega)), HW⟩
                    case measure => simp [intOf]
                  · clear hz
                    go_wp2_with (go_at_call 19; refine (HZ _).mono ?_; rintro e w' ⟨rfl, rfl⟩)
                    exact bodyPost_ret (v := .bool false) (by simp [results, Try.results17, go_sem]) rfl ⟨false, rfl, fun h => absurd h (by decide), hww⟩
                · subst hk9
                  have HJX : ∀ W : World, (Instr.index 56 (.agg #[.int .i64 x0, .int .i64 x1, .int .i64 x2]) (.int .i64 2)).run Try.prog W = .ok (.int .i64 x2) W := fun W => by simp [Instr.index, go_sem]
                  obtain ⟨z, hz⟩ : ∃ z, z = Pl.held x2 := ⟨_, rfl⟩
                  have HZ : ∀ W : World, Calls Try.prog 19 #[.int .i64 x2] W (fun e w' => e = .returned (.int .i64 z) ∧ W = w') := fun W => by rw [hz]; exact Wa.held_any x2 W
                  by_cases hxy : x2 = z
                  · have HIN := Lib.hid (in_held hxy hz)
                    clear hz
                    subst hxy
                    go_wp2_with (go_at_call 19; refine (HZ _).mono ?_; rintro e w' ⟨rfl, rfl⟩)
                    go_roundw
                    case rel => exact ⟨3, by omega, by first | rfl | go_num, Lib.hid (fun _ => HI0.out (by omega)), Lib.hid (fun _ => HI1.out (by omega)), Lib.hid (fun _ => HIN.out), HW⟩
                    case measure => simp [intOf]
                  · clear hz
                    go_wp2_with (go_at_call 19; refine (HZ _).mono ?_; rintro e w' ⟨rfl, rfl⟩)
                    exact bodyPost_ret (v := .bool false) (by simp [results, Try.results17, go_sem]) rfl ⟨false, rfl, fun h => absurd h (by decide), hww⟩
                · subst hk9
                  have HT := Lib.hid (show span B ((k3 + 1) * 3) from span_three HS3.out (by rw [← HX0.out]; exact HI0.out (by omega)) (by rw [← HX1.out]; exact HI1.out (by omega)) (by rw [← HX2.out]; exact HI2.out (by omega)))
                  go_wp2_with fail
                  go_roundw
                  case rel => exact ⟨k3 + 1, by omega, by go_num, HT, HW⟩
                  case measure => simp [intOf]; omega
            · have hge : ¬ (k3 : Int) < nb := by omega
              have HSPB := Lib.hid (show span B (nb * 3) by rw [← show k3 = nb by omega]; exact HS3.out)
              clear hlt
              go_wp2_with fail
              go_roundw
              case rel => exact ⟨2, by omega, by first | rfl | go_num, Lib.hid (fun _ => HQ1.out (by omega)), Lib.hid (fun _ => HSPB.out), HW⟩
              case measure => simp [intOf]
        · subst hk8
          have d3 := cell_of_row _ _ 4 _ _ _ ((HW.out.block _ (lt_heap hr0_0)).trans hr0_0)
          simp at d3
          go_wp2_with fail
          go_loopw [56] (fun ix wr => ∃ k : Nat, k ≤ nn ∧ ix = .int .i64 k ∧ Hid (span N (k * 3)) ∧ Hid (Below y0.heap.size y0 wr)) (fun ix _ => nn - (intOf ix).toNat)
          case atStart => exact ⟨0, Nat.zero_le _, rfl, Lib.hid (by rw [Nat.zero_mul]; exact span_zero _), HW⟩
          case round =>
            clear HW
            obtain ⟨k4, hk4, rfl, HS4, HW⟩ := hrel
            have hww := HU0.out.trans (HW.out.mono HU0.out.size)
            by_cases hlt : k4 < nn
            · have hlt' : (k4 : Int) < nn := by omega
              obtain ⟨sb, so, hsa, e0, e1, e2⟩ := (HN_.out.on hww).at3 hlt
              subst hsa
              obtain ⟨x0, hx0⟩ : ∃ x, x = N (k4 * 3) := ⟨_, rfl⟩
              rw [← hx0] at e0
              have HX0 := Lib.hid hx0
              clear hx0
              obtain ⟨x1, hx1⟩ : ∃ x, x = N (k4 * 3 + 1) := ⟨_, rfl⟩
              rw [← hx1] at e1
              have HX1 := Lib.hid hx1
              clear hx1
              obtain ⟨x2, hx2⟩ : ∃ x, x = N (k4 * 3 + 2) := ⟨_, rfl⟩
              rw [← hx2] at e2
              have HX2 := Lib.hid hx2
              clear hx2
              go_wp2_with fail
              go_loopw [61] (fun ix wr => ∃ k : Int, (k = 0 ∨ k = 1 ∨ k = 2 ∨ k = 3) ∧ ix = .int .i64 k ∧ Hid (1 ≤ k → In x0) ∧ Hid (2 ≤ k → In x1) ∧ Hid (3 ≤ k → In x2) ∧ Hid (Below y0.heap.size y0 wr)) (fun ix _ => 3 - (intOf ix).toNat)
              case atStart => exact ⟨0, .inl rfl, rfl, Lib.hid (fun h => absurd h (by omega)), Lib.hid (fun h => absurd h (by omega)), Lib.hid (fun h => absurd h (by omega)), Lib.hid (HW.out.trans ((Ve.below_n1 _ _).mono HW.out.size))⟩
              case round =>
                clear HW hww e0 e1 e2
                obtain ⟨k9, hk9, rfl, HI0, HI1, HI2, HW⟩ := hrel
                have hww := HU0.out.trans (HW.out.mono HU0.out.size)
                rcases hk9 with hk9 | hk9 | hk9 | hk9
                · subst hk9
                  have HJX : ∀ W : World, (Instr.index 66 (.agg #[.int .i64 x0, .int .i64 x1, .int .i64 x2]) (.int .i64 0)).run Try.prog W = .ok (.int .i64 x0) W := fun W => by simp [Instr.index, go_sem]
                  obtain ⟨z, hz⟩ : ∃ z, z = Pl.held x0 := ⟨_, rfl⟩
                  have HZ : ∀ W : World, Calls Try.prog 19 #[.int .i64 x0] W (fun e w' => e = .returned (.int .i64 z) ∧ W = w') := fun W => by rw [hz]; exact Wa.held_any x0 W
                  by_cases hxy : x0 = z
                  · have HIN := Lib.hid (in_held hxy hz)
                    clear hz
                    subst hxy
                    go_wp2_with (go_at_call 19; refine (HZ _).mono ?_; rintro e w' ⟨rfl, rfl⟩)
                    go_roundw
                    case rel => exact ⟨1, by omega, by first | rfl | go_num, Lib.hid (fun _ => HIN.out), Lib.hid (fun h => absurd h (by omega)), Lib.hid (fun h => absurd h (by omega)), HW⟩
                    case measure => simp [intOf]
                  · clear hz
                    go_wp2_with (go_at_call 19; refine (HZ _).mono ?_; rintro e w' ⟨rfl, rfl⟩)
                    exact bodyPost_ret (v := .bool false) (by simp [results, Try.results17, go_sem]) rfl ⟨false, rfl, fun h => absurd h (by decide), hww⟩
                · subst hk9
                  have HJX : ∀ W : World, (Instr.index 66 (.agg #[.int .i64 x0, .int .i64 x1, .int .i64 x2]) (.int .i64 1)).run Try.prog W = .ok (.int .i64 x1) W := fun W => by simp [Instr.index, go_sem]
                  obtain ⟨z, hz⟩ : ∃ z, z = Pl.held x1 := ⟨_, rfl⟩
                  have HZ : ∀ W : World, Calls Try.prog 19 #[.int .i64 x1] W (fun e w' => e = .returned (.int .i64 z) ∧ W = w') := fun W => by rw [hz]; exact Wa.held_any x1 W
                  by_cases hxy : x1 = z
                  · have HIN := Lib.hid (in_held hxy hz)
                    clear hz
                    subst hxy
                    go_wp2_with (go_at_call 19; refine (HZ _).mono ?_; rintro e w' ⟨rfl, rfl⟩)
                    go_roundw
                    case rel => exact ⟨2, by omega, by first | rfl | go_num, Lib.hid (fun _ => HI0.out (by omega)), Lib.hid (fun _ => HIN.out), Lib.hid (fun h => absurd h (by omega)), HW⟩
                    case measure => simp [intOf]
                  · clear hz
                    go_wp2_with (go_at_call 19; refine (HZ _).mono ?_; rintro e w' ⟨rfl, rfl⟩)
                    exact bodyPost_ret (v := .bool false) (by simp [results, Try.results17, go_sem]) rfl ⟨false, rfl, fun h => absurd h (by decide), hww⟩
                · subst hk9
                  have HJX : ∀ W : World, (Instr.index 66 (.agg #[.int .i64 x0, .int .i64 x1, .int .i64 x2]) (.int .i64 2)).run Try.prog W = .ok (.int .i64 x2) W := fun W => by simp [Instr.index, go_sem]
                  obtain ⟨z, hz⟩ : ∃ z, z = Pl.held x2 := ⟨_, rfl⟩
                  have HZ : ∀ W : World, Calls Try.prog 19 #[.int .i64 x2] W (fun e w' => e = .returned (.int .i64 z) ∧ W = w') := fun W => by rw [hz]; exact Wa.held_any x2 W
                  by_cases hxy : x2 = z
                  · have HIN := Lib.hid (in_held hxy hz)
                    clear hz
                    subst hxy
                    go_wp2_with (go_at_call 19; refine (HZ _).mono ?_; rintro e w' ⟨rfl, rfl⟩)
                    go_roundw
                    case rel => exact ⟨3, by omega, by first | rfl | go_num, Lib.hid (fun _ => HI0.out (by omega)), Lib.hid (fun _ => HI1.out (by omega)), Lib.hid (fun _ => HIN.out), HW⟩
                    case measure => simp [intOf]
                  · clear hz
                    go_wp2_with (go_at_call 19; refine (HZ _).mono ?_; rintro e w' ⟨rfl, rfl⟩)
                    exact bodyPost_ret (v := .bool false) (by simp [results, Try.results17, go_sem]) rfl ⟨false, rfl, fun h => absurd h (by decide), hww⟩
                · subst hk9
                  have HT := Lib.hid (show span N ((k4 + 1) * 3) from span_three HS4.out (by rw [← HX0.out]; exact HI0.out (by omega)) (by rw [← HX1.out]; exact HI1.out (by omega)) (by rw [← HX2.out]; exact HI2.out (by omega)))
                  go_wp2_with fail
                  go_roundw
                  case rel => exact ⟨k4 + 1, by omega, by go_num, HT, HW⟩
                  case measure => simp [intOf]; omega
            · have hge : ¬ (k4 : Int) < nn := by omega
              have HSPN := Lib.hid (show span N (nn * 3) by rw [← show k4 = nn by omega]; exact HS4.out)
              clear hlt
              go_wp2
              exact bodyPost_ret (v := .bool true) (by simp [results, Try.results17, go_sem]) rfl (.inr ⟨rfl, ⟨HQ1.out (by omega), HSPD.out, HSPN.out, HQ2.out (by omega)⟩, hww⟩)

theorem held_film (f : Flm) (p : Pl) (w : World) (h : FAt w f p) (bl : f.nl * 24 ≤ 140737488351232) (bd : f.nd * 8 ≤ 140737488351232) (bn : f.nn * 24 ≤ 140737488351232) (bb : f.nb * 24 ≤ 140737488351232) :
    Calls Try.prog 17 #[.agg (FC f p)] w fun e' w' => (∃ t : Bool, e' = .returned (.bool t) ∧ (t = true → SpanF f) ∧ Below w.heap.size w w') := by
  obtain ⟨W, H, nl, nd, nn, nb, ns, nf, L, D, N, B, S, F⟩ := f
  obtain ⟨al, cl, ad, cd, an, cn, ab, cb, ax, cx, af, cf⟩ := p
  obtain ⟨h1, h2, h3, h4, h5, h6⟩ := h
  exact held_letters W H al ad an ab ax af cl cd cn cb cx cf nl nd nn nb ns nf L D N B S F w h1 h2 h3 h4 bl bd bn bb

end Go.Proofs.Ytgpbnpnnbipfpaa.Fm
