/- The contract of whether a track may be. -/
import Derived.Test.YtplcbdmiccpnnaaGreatC19
import Derived.Test.YtplcbdmiccpnnaaGreatC15
import Derived.Test.YtplcbdmiccpnnaaGreatC16
namespace Go.Proofs.YtplcbdmiccpnnaaGreat.Tk
open Go.RowKit Go.Proofs.YtplcbdmiccpnnaaGreat Go.Proofs.YtplcbdmiccpnnaaGreat.Wa Go.Proofs.YtplcbdmiccpnnaaGreat.Ve

theorem ret_bool {a b : Bool} (h : a = b) : Ending.returned (.bool a) = .returned (.bool b) := by rw [h]

theorem mayBe_is (t x y z : Int) (v : Bool) (h : mayB t x y z = v) (w : World) : Calls Tryz.prog 75 #[K4 t x y z] w fun e w' => e = .returned (.bool v) ∧ Below w.heap.size w w' := by
  subst h; exact mayBe_any t x y z w

theorem right_shape (way : Int) (a : Option Addr) (n cap : Nat) (h : ¬ (0 ≤ way ∧ way ≤ 2 ∧ 1 ≤ n ∧ n ≤ 16)) (hn : n ≤ 4611686018427387904) (w : World) :
    Calls Tryz.prog 46 #[.agg #[.int .i64 way, .slice a n cap]] w fun e w' => e = .returned (.bool false) ∧ Below w.heap.size w w' := by
  by_cases h1 : way < 0
  · clear h
    go_enter Tryz.func46, Tryz.ntmps46
    go_wp2
    go_ret
    exact ⟨rfl, below_n1 _ _⟩
  · by_cases h2 : 2 < way
    · clear h
      go_enter Tryz.func46, Tryz.ntmps46
      go_wp2
      go_ret
      exact ⟨rfl, below_n1 _ _⟩
    · by_cases h3 : n < 1
      · clear h
        have h3' : (n : Int) < 1 := by omega
        go_enter Tryz.func46, Tryz.ntmps46
        go_wp2
        go_ret
        exact ⟨rfl, below_n1 _ _⟩
      · have h4 : 16 < n := by omega
        have h3' : ¬ (n : Int) < 1 := by omega
        have h4' : (16 : Int) < n := by omega
        clear h
        go_enter Tryz.func46, Tryz.ntmps46
        go_wp2
        go_ret
        exact ⟨rfl, below_n1 _ _⟩

set_option maxHeartbeats 1000000 in
set_option maxRecDepth 100000 in
theorem right_row (way : Int) (b off n cap : Nat) (L : Nat → Int) (h : 0 ≤ way ∧ way ≤ 2 ∧ 1 ≤ n ∧ n ≤ 16) (w : World) (hc : ∀ j, j < n * 4 → w.cell? ⟨b, off + j, none⟩ = some (.int .i64 (L j))) :
    Calls Tryz.prog 46 #[.agg #[.int .i64 way, .slice (some ⟨b, off, none⟩) n cap]] w fun e w' => e = .returned (.bool (rightB way n L)) ∧ Below w.heap.size w w' := by
  have HG := Lib.hid (fun ho => rightB_good (L := L) h ho)
  obtain ⟨h1, h2, h3, h4⟩ := h
  have HC := Lib.hid hc
  clear hc
  go_enter Tryz.func46, Tryz.ntmps46
  go_wp2_with fail
  go_loopw [28] (fun s wr => ∃ k : Nat, k ≤ n ∧ s = .int .i64 k ∧ Hid (okUpto L k = true) ∧ wr.cell? ⟨w.heap.size, 1, none⟩ = some (.slice (some ⟨b, off, none⟩) n cap) ∧ Below w.heap.size w wr) (fun s _ => n - (intOf s).toNat)
  case atStart => exact ⟨0, by omega, rfl, Lib.hid rfl, by go_simp, below_n1 _ _⟩
  case round =>
    obtain ⟨k, hk, rfl, HO, hbox, hbk⟩ := hrel
    by_cases hkn : k < n
    · obtain ⟨c0, c1, c2, c3⟩ := four_of HC.out hkn
      replace c0 := held_on hbk c0
      replace c1 := held_on hbk c1
      replace c2 := held_on hbk c2
      replace c3 := held_on hbk c3
      obtain ⟨v, hv⟩ : ∃ v, mayB (L (k * 4)) (L (k * 4 + 1)) (L (k * 4 + 2)) (L (k * 4 + 3)) = v := ⟨_, rfl⟩
      have HM := Lib.hid hv
      clear hv
      replace hbk := hbk.alloc hbk.size (Obj.cells #[.int .i64 (L (k * 4)), .int .i64 (L (k * 4 + 1)), .int .i64 (L (k * 4 + 2)), .int .i64 (L (k * 4 + 3))] 137)
      have hbx : Cell (wr.alloc (Obj.cells #[.int .i64 (L (k * 4)), .int .i64 (L (k * 4 + 1)), .int .i64 (L (k * 4 + 2)), .int .i64 (L (k * 4 + 3))] 137)).drew ⟨w.heap.size, 1, none⟩ (.slice (some ⟨b, off, none⟩) n cap) := (Cell.old hbox _).draw
      have hbd := hbk.drew
      cases v
      · have HE := Lib.hid (show false = rightB way n L from (rightB_bad (k := k) (by unfold okKey; rw [HM.out]; rfl) hkn).symm)
        go_wp2_with fail
        refine wp_region_any (by kernel_rfl) ?_
        (try (change wpAny _ _ _ _ _ _ _ (World.drew _)))
        refine wpAny_ready (rs := [0]) (by kernel_rfl) (by simp) ?_
        refine AllReady.cons rfl (fun K hK => ?_) AllReady.nil
        go_simp
        (refine hK _ _ ?_; clear hK K)
        refine wpAny_ready (rs := [1]) (by kernel_rfl) (by simp) ?_
        refine AllReady.cons rfl (fun K hK => ?_) AllReady.nil
        go_simp
        go_wp2_with (go_at_call 75; with_reducible refine (mayBe_is _ _ _ _ _ HM.out _).mono ?_; rintro e w9 ⟨rfl, hbn⟩; (with_reducible have hb9 := hbd.trans (hbn.mono hbd.size)); (with_reducible have hx9 := hbx.on hbn))
        refine wpAny_take (i := 2) (v := ?_) rfl (by kernel_rfl) (by kernel_rfl) (by kernel_rfl) (fun _ _ _ h => h) (Or.inl ⟨by kernel_rfl, by (intro w; go_simp; try with_reducible rfl)⟩) ?_
        go_simp
        refine wpAny_take (i := 3) (v := ?_) rfl (by kernel_rfl) (by kernel_rfl) (by kernel_rfl) (fun _ _ _ h => h) (Or.inl ⟨by kernel_rfl, by (intro w; go_simp; try with_reducible rfl)⟩) ?_
        go_simp
        refine wpAny_take (i := 4) (v := undef) rfl (by kernel_rfl) (by kernel_rfl) (by kernel_rfl) (fun _ _ _ h => h) (Or.inr ⟨by kernel_rfl, rfl⟩) ?_
        go_simp
        refine wpAny_take (i := 5) (v := undef) rfl (by kernel_rfl) (by kernel_rfl) (by kernel_rfl) (fun _ _ _ h => h) (Or.inr ⟨by kernel_rfl, rfl⟩) ?_
        go_simp
        refine wpAny_take (i := 6) (v := undef) rfl (by kernel_rfl) (by kernel_rfl) (by kernel_rfl) (fun _ _ _ h => h) (Or.inr ⟨by kernel_rfl, rfl⟩) ?_
        go_simp
        refine wpAny_take (i := 7) (v := undef) rfl (by kernel_rfl) (by kernel_rfl) (by kernel_rfl) (fun _ _ _ h => h) (Or.inr ⟨by kernel_rfl, rfl⟩) ?_
        go_simp
        refine wpAny_take (i := 8) (v := undef) rfl (by kernel_rfl) (by kernel_rfl) (by kernel_rfl) (fun _ _ _ h => h) (Or.inr ⟨by kernel_rfl, rfl⟩) ?_
        go_simp
        refine wpAny_take (i := 9) (v := undef) rfl (by kernel_rfl) (by kernel_rfl) (by kernel_rfl) (fun _ _ _ h => h) (Or.inr ⟨by kernel_rfl, rfl⟩) ?_
        go_simp
        refine wpAny_take (i := 10) (v := undef) rfl (by kernel_rfl) (by kernel_rfl) (by kernel_rfl) (fun _ _ _ h => h) (Or.inr ⟨by kernel_rfl, rfl⟩) ?_
        go_simp
        refine wpAny_take (i := 11) (v := undef) rfl (by kernel_rfl) (by kernel_rfl) (by kernel_rfl) (fun _ _ _ h => h) (Or.inr ⟨by kernel_rfl, rfl⟩) ?_
        go_simp
        refine wpAny_take (i := 12) (v := undef) rfl (by kernel_rfl) (by kernel_rfl) (by kernel_rfl) (fun _ _ _ h => h) (Or.inr ⟨by kernel_rfl, rfl⟩) ?_
        go_simp
        refine wpAny_take (i := 13) (v := undef) rfl (by kernel_rfl) (by kernel_rfl) (by kernel_rfl) (fun _ _ _ h => h) (Or.inr ⟨by kernel_rfl, rfl⟩) ?_
        go_simp
        refine wpAny_take (i := 14) (v := undef) rfl (by kernel_rfl) (by kernel_rfl) (by kernel_rfl) (fun _ _ _ h => h) (Or.inr ⟨by kernel_rfl, rfl⟩) ?_
        go_simp
        refine wpAny_take (i := 15) (v := undef) rfl (by kernel_rfl) (by kernel_rfl) (by kernel_rfl) (fun _ _ _ h => h) (Or.inr ⟨by kernel_rfl, rfl⟩) ?_
        go_simp
        refine wpAny_take (i := 16) (v := undef) rfl (by kernel_rfl) (by kernel_rfl) (by kernel_rfl) (fun _ _ _ h => h) (Or.inr ⟨by kernel_rfl, rfl⟩) ?_
        go_simp
        refine wpAny_take (i := 17) (v := undef) rfl (by kernel_rfl) (by kernel_rfl) (by kernel_rfl) (fun _ _ _ h => h) (Or.inr ⟨by kernel_rfl, rfl⟩) ?_
        go_simp
        refine wpAny_take (i := 18) (v := ?_) rfl (by kernel_rfl) (by kernel_rfl) (by kernel_rfl) (fun _ _ _ h => h) (Or.inl ⟨by kernel_rfl, by (intro w; go_simp; try with_reducible rfl)⟩) ?_
        go_simp
        refine wpAny_done (by kernel_rfl) ?_ _
        all_goals (go_wp2; go_ret; exact ⟨ret_bool HE.out, hb9⟩)
      · by_cases hk0 : k = 0
        · have HO1 := Lib.hid (show okUpto L (k + 1) = true by unfold okUpto; rw [HO.out]; unfold okKey; rw [HM.out, decide_eq_true hk0]; rfl)
          have hk1 : ¬ 0 < k := by omega
          have hk2 : ¬ (0 : Int) < k := by omega
          have hk3 : decide ((0 : Int) < (k : Int)) = false := decide_eq_false hk2
          clear hk0
          go_wp2_with fail
          refine wp_region_any (by kernel_rfl) ?_
          (try (change wpAny _ _ _ _ _ _ _ (World.drew _)))
          refine wpAny_ready (rs := [0]) (by kernel_rfl) (by simp) ?_
          refine AllReady.cons rfl (fun K hK => ?_) AllReady.nil
          go_simp
          (refine hK _ _ ?_; clear hK K)
          refine wpAny_ready (rs := [1]) (by kernel_rfl) (by simp) ?_
          refine AllReady.cons rfl (fun K hK => ?_) AllReady.nil
          go_simp
          go_wp2_with (go_at_call 75; with_reducible refine (mayBe_is _ _ _ _ _ HM.out _).mono ?_; rintro e w9 ⟨rfl, hbn⟩; (with_reducible have hb9 := hbd.trans (hbn.mono hbd.size)); (with_reducible have hx9 := hbx.on hbn))
          refine wpAny_take (i := 2) (v := ?_) rfl (by kernel_rfl) (by kernel_rfl) (by kernel_rfl) (fun _ _ _ h => h) (Or.inl ⟨by kernel_rfl, by (intro w; go_simp; try with_reducible rfl)⟩) ?_
          go_simp
          refine wpAny_take (i := 3) (v := ?_) rfl (by kernel_rfl) (by kernel_rfl) (by kernel_rfl) (fun _ _ _ h => h) (Or.inl ⟨by kernel_rfl, by (intro w; go_simp; try with_reducible rfl)⟩) ?_
          go_simp
          refine wpAny_take (i := 4) (v := ?_) rfl (by kernel_rfl) (by kernel_rfl) (by kernel_rfl) (fun _ _ _ h => h) (Or.inl ⟨by kernel_rfl, by (intro w; go_simp; try with_reducible rfl)⟩) ?_
          go_simp
          refine wpAny_take (i := 5) (v := ?_) rfl (by kernel_rfl) (by kernel_rfl) (by kernel_rfl) (fun _ _ _ h => h) (Or.inl ⟨by kernel_rfl, by (intro w; go_simp; try with_reducible rfl)⟩) ?_
          go_simp
          refine wpAny_take (i := 6) (v := ?_) rfl (by kernel_rfl) (by kernel_rfl) (by kernel_rfl) (fun _ _ _ h => h) (Or.inl ⟨by kernel_rfl, by (intro w; go_simp; try with_reducible rfl)⟩) ?_
          go_simp
          refine wpAny_take (i := 7) (v := undef) rfl (by kernel_rfl) (by kernel_rfl) (by kernel_rfl) (fun _ _ _ h => h) (Or.inr ⟨by kernel_rfl, rfl⟩) ?_
          go_simp
          refine wpAny_take (i := 8) (v := undef) rfl (by kernel_rfl) (by kernel_rfl) (by kernel_rfl) (fun _ _ _ h => h) (Or.inr ⟨by kernel_rfl, rfl⟩) ?_
          go_simp
          refine wpAny_take (i := 9) (v := undef) rfl (by kernel_rfl) (by kernel_rfl) (by kernel_rfl) (fun _ _ _ h => h) (Or.inr ⟨by kernel_rfl, rfl⟩) ?_
          go_simp
          refine wpAny_take (i := 10) (v := undef) rfl (by kernel_rfl) (by kernel_rfl) (by kernel_rfl) (fun _ _ _ h => h) (Or.inr ⟨by kernel_rfl, rfl⟩) ?_
          go_simp
          refine wpAny_take (i := 11) (v := undef) rfl (by kernel_rfl) (by kernel_rfl) (by kernel_rfl) (fun _ _ _ h => h) (Or.inr ⟨by kernel_rfl, rfl⟩) ?_
          go_simp
          refine wpAny_take (i := 12) (v := undef) rfl (by kernel_rfl) (by kernel_rfl) (by kernel_rfl) (fun _ _ _ h => h) (Or.inr ⟨by kernel_rfl, rfl⟩) ?_
          go_simp
          refine wpAny_take (i := 13) (v := undef) rfl (by kernel_rfl) (by kernel_rfl) (by kernel_rfl) (fun _ _ _ h => h) (Or.inr ⟨by kernel_rfl, rfl⟩) ?_
          go_simp
          refine wpAny_take (i := 14) (v := undef) rfl (by kernel_rfl) (by kernel_rfl) (by kernel_rfl) (fun _ _ _ h => h) (Or.inr ⟨by kernel_rfl, rfl⟩) ?_
          go_simp
          refine wpAny_take (i := 15) (v := undef) rfl (by kernel_rfl) (by kernel_rfl) (by kernel_rfl) (fun _ _ _ h => h) (Or.inr ⟨by kernel_rfl, rfl⟩) ?_
          go_simp
          refine wpAny_take (i := 16) (v := undef) rfl (by kernel_rfl) (by kernel_rfl) (by kernel_rfl) (fun _ _ _ h => h) (Or.inr ⟨by kernel_rfl, rfl⟩) ?_
          go_simp
          refine wpAny_take (i := 17) (v := ?_) rfl (by kernel_rfl) (by kernel_rfl) (by kernel_rfl) (fun _ _ _ h => h) (Or.inl ⟨by kernel_rfl, by (intro w; go_simp; try with_reducible rfl)⟩) ?_
          go_simp
          refine wpAny_take (i := 18) (v := ?_) rfl (by kernel_rfl) (by kernel_rfl) (by kernel_rfl) (fun _ _ _ h => h) (Or.inl ⟨by kernel_rfl, by (intro w; go_simp; try with_reducible rfl)⟩) ?_
          go_simp
          refine wpAny_done (by kernel_rfl) ?_ _
          all_goals
            go_wp2
            go_roundw
            case rel => exact ⟨k + 1, by omega, by go_num, HO1, hx9.is, hb9⟩
            case measure => simp [intOf]; omega
        · obtain ⟨m, hm⟩ : ∃ m, k = m + 1 := ⟨k - 1, by omega⟩
          have hk1 : 0 < k := by omega
          have hk2 : (0 : Int) < k := by omega
          have hmn : m < n := by omega
          have m1 : IntKind.i64.wrap (m : Int) = (m : Int) := IntWalk.i64_in _ (by omega)
          have m2 : (k : Int) - 1 = (m : Int) := by omega
          have m3 : (0 : Int) ≤ (m : Int) := by omega
          have hmn' : (m : Int) < n := by omega
          have m4 : ((m : Nat) : Int).toNat = m := by simp
          have p0 := held_on (hbk) ((four_of HC.out hmn).1)
          have HK := Lib.hid (show okKey L k = decide (L (m * 4) < L (k * 4)) by unfold okKey; rw [HM.out, hm]; simp)
          clear hm hk0
          by_cases ht : L (m * 4) < L (k * 4)
          · have ht' : ¬ L (k * 4) ≤ L (m * 4) := by omega
            have HO1 := Lib.hid (show okUpto L (k + 1) = true by unfold okUpto; rw [HO.out, HK.out, decide_eq_true ht]; rfl)
            go_wp2_with fail
            go_region_held3 (fun w' => w'.cell? ⟨w.heap.size, 1, none⟩ = some (.slice (some ⟨b, off, none⟩) n cap) ∧ w'.cell? ⟨wr.heap.size, 0, none⟩ = some (.int .i64 (L (k * 4))) ∧ w'.cell? ⟨wr.heap.size, 1, none⟩ = some (.int .i64 (L (k * 4 + 1))) ∧ w'.cell? ⟨wr.heap.size, 2, none⟩ = some (.int .i64 (L (k * 4 + 2))) ∧ w'.cell? ⟨wr.heap.size, 3, none⟩ = some (.int .i64 (L (k * 4 + 3))) ∧ w'.cell? ⟨b, off + m * 4, none⟩ = some (.int .i64 (L (m * 4)))) (first | (go_keep; done) | (go_split_ands; (try dsimp only); exact ⟨held_on hbn (by assumption), held_on hbn (by assumption), held_on hbn (by assumption), held_on hbn (by assumption), held_on hbn (by assumption), held_on hbn (by assumption)⟩)) (first | (go_at_call 75; with_reducible refine (mayBe_is _ _ _ _ _ HM.out _).mono ?_; rintro e w9 ⟨rfl, hbn⟩; (first | (replace hbk := hbk.trans (hbn.mono hbk.size)) | (replace hbk := hbk.drew.trans (hbn.mono hbk.drew.size)))))
            go_wp2
            go_roundw
            case rel => exact ⟨k + 1, by omega, by go_num, HO1, by first | assumption | (go_split_ands; assumption), hbk⟩
            case measure => simp [intOf]; omega
          · have ht' : L (k * 4) ≤ L (m * 4) := by omega
            have HE := Lib.hid (show false = rightB way n L from (rightB_bad (k := k) (by rw [HK.out, decide_eq_false ht]) hkn).symm)
            go_wp2_with fail
            go_region_held3 (fun w' => w'.cell? ⟨w.heap.size, 1, none⟩ = some (.slice (some ⟨b, off, none⟩) n cap) ∧ w'.cell? ⟨wr.heap.size, 0, none⟩ = some (.int .i64 (L (k * 4))) ∧ w'.cell? ⟨wr.heap.size, 1, none⟩ = some (.int .i64 (L (k * 4 + 1))) ∧ w'.cell? ⟨wr.heap.size, 2, none⟩ = some (.int .i64 (L (k * 4 + 2))) ∧ w'.cell? ⟨wr.heap.size, 3, none⟩ = some (.int .i64 (L (k * 4 + 3))) ∧ w'.cell? ⟨b, off + m * 4, none⟩ = some (.int .i64 (L (m * 4)))) (first | (go_keep; done) | (go_split_ands; (try dsimp only); exact ⟨held_on hbn (by assumption), held_on hbn (by assumption), held_on hbn (by assumption), held_on hbn (by assumption), held_on hbn (by assumption), held_on hbn (by assumption)⟩)) (first | (go_at_call 75; with_reducible refine (mayBe_is _ _ _ _ _ HM.out _).mono ?_; rintro e w9 ⟨rfl, hbn⟩; (first | (replace hbk := hbk.trans (hbn.mono hbk.size)) | (replace hbk := hbk.drew.trans (hbn.mono hbk.drew.size)))))
            go_wp2
            go_ret
            exact ⟨ret_bool HE.out, hbk⟩
    · have HE := Lib.hid (show true = rightB way n L from (HG.out (by rw [show n = k by omega]; exact HO.out)).symm)
      go_wp2
      go_ret
      exact ⟨ret_bool HE.out, hbk⟩

theorem right_any (way : Int) (a : Option Addr) (n cap : Nat) (L : Nat → Int) (w : World) (hr : KeysAt w a n L) :
    Calls Tryz.prog 46 #[.agg #[.int .i64 way, .slice a n cap]] w fun e w' => e = .returned (.bool (rightB way n L)) ∧ Below w.heap.size w w' := by
  obtain ⟨h0, hr⟩ := hr
  by_cases h : 0 ≤ way ∧ way ≤ 2 ∧ 1 ≤ n ∧ n ≤ 16
  · rcases hr with h' | ⟨b, off, rfl, -, hc⟩
    · omega
    · exact right_row way b off n cap L h w hc
  · rw [rightB_shape h]; exact right_shape way a n cap h (by omega) w
end Go.Proofs.YtplcbdmiccpnnaaGreat.Tk

/- Scenes, plainly: what breaks no rule breaks none with less, with a paint twice, with one frame. -/
namespace Go.Proofs.YtplcbdmiccpnnaaGreat.Sc
open Go.RowKit Go.Proofs.YtplcbdmiccpnnaaGreat Go.Proofs.YtplcbdmiccpnnaaGreat.Wa Go.Proofs.YtplcbdmiccpnnaaGreat.Ve Go.Proofs.YtplcbdmiccpnnaaGreat.Tk
set_option linter.unusedVariables false

theorem once_ok {b : Bool} (h : onceB b = -1) : b = true := by
  cases b
  · simp [onceB] at h
  · rfl

theorem chk_zero {s : Scn} (h : ∀ k, k < 7 → wh s k = -1) : (chk s).1 = 0 := by rw [chk_ok h]

theorem lampW_ok {s : Scn} (h : lampW s = -1) : (lamps s).length ≤ 16 := by
  unfold lampW at h
  by_cases e : (lamps s).length ≤ 16
  · exact e
  · rw [if_neg e] at h; omega

theorem few_lamps {s : Scn} (h : (lamps s).length ≤ 16) : lampW s = -1 := by simp [lampW, h]

theorem whs {s : Scn} (h0 : hdB s = true) (h1 : s.np ≤ 32 ∧ ∀ k, k < s.np → pB s k = true) (h2 : s.nt ≤ 32 ∧ ∀ k, k < s.nt → tB s k = true) (h3 : s.nj ≤ 32 ∧ ∀ k, k < s.nj → jB s k = true) (h4 : s.ns ≤ 128 ∧ ∀ k, k < s.ns → sB s k = true) (h5 : lnB s = true) (h6 : (lamps s).length ≤ 16) : (chk s).1 = 0 :=
  chk_zero fun k hk => by
    match k, hk with
    | 0, _ => show onceB (hdB s) = -1; rw [h0]; rfl
    | 1, _ => exact whereB_none h1.1 h1.2
    | 2, _ => exact whereB_none h2.1 h2.2
    | 3, _ => exact whereB_none h3.1 h3.2
    | 4, _ => exact whereB_none h4.1 h4.2
    | 5, _ => show onceB (lnB s) = -1; rw [h5]; rfl
    | 6, _ => exact few_lamps h6

theorem shw {s : Scn} (h : (chk s).1 = 0) : hdB s = true ∧ (s.np ≤ 32 ∧ ∀ k, k < s.np → pB s k = true) ∧ (s.nt ≤ 32 ∧ ∀ k, k < s.nt → tB s k = true) ∧ (s.nj ≤ 32 ∧ ∀ k, k < s.nj → jB s k = true) ∧ (s.ns ≤ 128 ∧ ∀ k, k < s.ns → sB s k = true) ∧ lnB s = true ∧ (lamps s).length ≤ 16 := by
  have hw := ok_chk h
  exact ⟨once_ok (hw 0 (by omega)), whereB_ok (hw 1 (by omega)), whereB_ok (hw 2 (by omega)), whereB_ok (hw 3 (by omega)), whereB_ok (hw 4 (by omega)), once_ok (hw 5 (by omega)), lampW_ok (hw 6 (by omega))⟩

/-- without its last shape -/
def lessS (s : Scn) : Scn := { s with ns := s.ns - 1 }

/-- with its last paint once more -/
def moreP (s : Scn) : Scn := { s with np := s.np + 1, P := fun j => if j < s.np * 5 then s.P j else s.P (j - 5) }

/-- with one frame -/
def oneF (s : Scn) : Scn := { s with fr := 1 }

theorem lampsTo_less {s t : Scn} : ∀ k, (∀ i, i < k → lampB s i = lampB t i) → lampsTo s k = lampsTo t k
  | 0, _ => rfl
  | k + 1, h => by
    unfold lampsTo
    rw [lampsTo_less k (fun i hi => h i (by omega)), h k (by omega)]

theorem lampsTo_mono (s : Scn) (k : Nat) : (lampsTo s k).length ≤ (lampsTo s (k + 1)).length := by
  rw [lampsTo]
  split <;> simp

theorem less_ok {s : Scn} (h : (chk s).1 = 0) : (chk (lessS s)).1 = 0 := by
  obtain ⟨h0, h1, h2, h3, h4, h5, h6⟩ := shw h
  refine whs h0 h1 h2 h3 ⟨?_, fun k hk => ?_⟩ h5 ?_
  · show s.ns - 1 ≤ 128; omega
  · exact h4.2 k (by have : k < s.ns - 1 := hk; omega)
  · show (lampsTo (lessS s) (s.ns - 1)).length ≤ 16
    rw [lampsTo_less (s := lessS s) (t := s) (s.ns - 1) (fun i hi => rfl)]
    have h6' : (lampsTo s s.ns).length ≤ 16 := h6
    rcases Nat.eq_zero_or_pos s.ns with e | e
    · rw [e] at h6' ⊢; exact h6'
    · have := lampsTo_mono s (s.ns - 1)
      rw [show s.ns - 1 + 1 = s.ns by omega] at this
      omega

theorem oneF_ok {s : Scn} (h : (chk s).1 = 0) : (chk (oneF s)).1 = 0 := by
  obtain ⟨h0, h1, h2, h3, h4, h5, h6⟩ := shw h
  refine whs ?_ h1 h2 h3 h4 h5 ?_
  · unfold hdB at h0 ⊢
    simp only [Bool.and_eq_true] at h0 ⊢
    exact ⟨⟨⟨⟨⟨⟨h0.1.1.1.1.1.1, h0.1.1.1.1.1.2⟩, h0.1.1.1.1.2⟩, h0.1.1.1.2⟩, inB_true.2 (by show (1 : Int) ≤ 1 ∧ (1 : Int) ≤ 32; omega)⟩, h0.1.2⟩, h0.2⟩
  · show (lampsTo (oneF s) s.ns).length ≤ 16
    rw [lampsTo_less (s := oneF s) (t := s) s.ns (fun i hi => rfl)]
    exact h6

theorem more_ok {s : Scn} (h : (chk s).1 = 0) (hp : 0 < s.np) (hp2 : s.np < 32) : (chk (moreP s)).1 = 0 := by
  obtain ⟨h0, h1, h2, h3, h4, h5, h6⟩ := shw h
  refine whs h0 ⟨?_, fun k hk => ?_⟩ h2 h3 ⟨h4.1, fun k hk => ?_⟩ h5 ?_
  · show s.np + 1 ≤ 32; omega
  · have hk' : k < s.np + 1 := hk
    by_cases e : k < s.np
    · have := h1.2 k e
      unfold pB at this ⊢
      simp only [moreP]
      rw [if_pos (by omega), if_pos (by omega), if_pos (by omega), if_pos (by omega), if_pos (by omega)]
      exact this
    · have e2 : k = s.np := by omega
      subst e2
      have := h1.2 (s.np - 1) (by omega)
      unfold pB at this ⊢
      simp only [moreP]
      rw [if_neg (by omega), if_neg (by omega), if_neg (by omega), if_neg (by omega), if_neg (by omega)]
      rw [show s.np * 5 - 5 = (s.np - 1) * 5 by omega, show s.np * 5 + 1 - 5 = (s.np - 1) * 5 + 1 by omega, show s.np * 5 + 2 - 5 = (s.np - 1) * 5 + 2 by omega, show s.np * 5 + 3 - 5 = (s.np - 1) * 5 + 3 by omega, show s.np * 5 + 4 - 5 = (s.np - 1) * 5 + 4 by omega]
      exact this
  · have := h4.2 k hk
    unfold sB shapeB at this ⊢
    simp only [Bool.and_eq_true] at this ⊢
    refine ⟨⟨⟨this.1.1.1, ?_⟩, this.1.2⟩, this.2⟩
    have h9 := inB_true.1 this.1.1.2
    exact inB_true.2 ⟨h9.1, by show _ ≤ ((s.np + 1 : Nat) : Int) - 1; have := h9.2; simp only [row13] at this ⊢; show s.S (k * 13 + 1) ≤ _; omega⟩
  · show (lampsTo (moreP s) s.ns).length ≤ 16
    rw [lampsTo_less (s := moreP s) (t := s) s.ns (fun i hi => ?_)]
    · exact h6
    · have := h4.2 i hi
      unfold sB shapeB at this
      simp only [Bool.and_eq_true] at this
      have h9 := inB_true.1 this.1.1.2
      simp only [row13] at h9
      have e1 : (0 ≤ s.S (i * 13 + 1) ∧ s.S (i * 13 + 1) < ((s.np + 1 : Nat) : Int)) := by omega
      have e2 : (0 ≤ s.S (i * 13 + 1) ∧ s.S (i * 13 + 1) < (s.np : Int)) := by omega
      have e3 : (moreP s).P (((moreP s).S (i * 13 + 1)).toNat * 5) = s.P ((s.S (i * 13 + 1)).toNat * 5) := by
        show (if _ then _ else _) = _
        exact if_pos (by show (s.S (i * 13 + 1)).toNat * 5 < s.np * 5; omega)
      unfold lampB
      rw [Bool.eq_iff_iff]
      simp only [Bool.and_eq_true, decide_eq_true_eq]
      rw [e3]
      exact ⟨fun h => ⟨e2, h.2⟩, fun h => ⟨e1, h.2⟩⟩

end Go.Proofs.YtplcbdmiccpnnaaGreat.Sc
