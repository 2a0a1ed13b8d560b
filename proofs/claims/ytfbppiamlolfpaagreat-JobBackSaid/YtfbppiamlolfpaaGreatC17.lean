/- The contract of whether a track may be. -/
import Derived.Test.YtfbppiamlolfpaaGreatC16
import Derived.Test.YtfbppiamlolfpaaGreatC12
namespace Go.Proofs.YtfbppiamlolfpaaGreat.Tk
open Go.RowKit Go.Proofs.YtfbppiamlolfpaaGreat Go.Proofs.YtfbppiamlolfpaaGreat.Wa Go.Proofs.YtfbppiamlolfpaaGreat.Ve

theorem ret_bool {a b : Bool} (h : a = b) : Ending.returned (.bool a) = .returned (.bool b) := by rw [h]

theorem mayBe_is (t x y z : Int) (v : Bool) (h : mayB t x y z = v) (w : World) : Calls Tryz.prog 87 #[K4 t x y z] w fun e w' => e = .returned (.bool v) ∧ Below w.heap.size w w' := by
  subst h; exact mayBe_any t x y z w

theorem right_shape (way : Int) (a : Option Addr) (n cap : Nat) (h : ¬ (0 ≤ way ∧ way ≤ 2 ∧ 1 ≤ n ∧ n ≤ 16)) (hn : n ≤ 4611686018427387904) (w : World) :
    Calls Tryz.prog 44 #[.agg #[.int .i64 way, .slice a n cap]] w fun e w' => e = .returned (.bool false) ∧ Below w.heap.size w w' := by
  by_cases h1 : way < 0
  · clear h
    go_enter Tryz.func44, Tryz.ntmps44
    go_wp2
    go_ret
    exact ⟨rfl, below_n1 _ _⟩
  · by_cases h2 : 2 < way
    · clear h
      go_enter Tryz.func44, Tryz.ntmps44
      go_wp2
      go_ret
      exact ⟨rfl, below_n1 _ _⟩
    · by_cases h3 : n < 1
      · clear h
        have h3' : (n : Int) < 1 := by omega
        go_enter Tryz.func44, Tryz.ntmps44
        go_wp2
        go_ret
        exact ⟨rfl, below_n1 _ _⟩
      · have h4 : 16 < n := by omega
        have h3' : ¬ (n : Int) < 1 := by omega
        have h4' : (16 : Int) < n := by omega
        clear h
        go_enter Tryz.func44, Tryz.ntmps44
        go_wp2
        go_ret
        exact ⟨rfl, below_n1 _ _⟩

set_option maxHeartbeats 1000000 in
set_option maxRecDepth 100000 in
theorem right_row (way : Int) (b off n cap : Nat) (L : Nat → Int) (h : 0 ≤ way ∧ way ≤ 2 ∧ 1 ≤ n ∧ n ≤ 16) (w : World) (hc : ∀ j, j < n * 4 → w.cell? ⟨b, off + j, none⟩ = some (.int .i64 (L j))) :
    Calls Tryz.prog 44 #[.agg #[.int .i64 way, .slice (some ⟨b, off, none⟩) n cap]] w fun e w' => e = .returned (.bool (rightB way n L)) ∧ Below w.heap.size w w' := by
  have HG := Lib.hid (fun ho => rightB_good (L := L) h ho)
  obtain ⟨h1, h2, h3, h4⟩ := h
  have HC := Lib.hid hc
  clear hc
  go_enter Tryz.func44, Tryz.ntmps44
  go_wp2_with fail
  go_loopw [28] (fun s wr => ∃ k : Nat, k ≤ n ∧ s = .int .i64 k ∧ Hid (okUpto L k = true) ∧ wr.cell? ⟨w.heap.size, 1, none⟩ = some (.slice (some ⟨b, off, none⟩) n cap) ∧ Below w.heap.size w wr) (fun s _ => n - (intOf s).toNat)
  case atStart => exact ⟨0, by omega, rfl, Lib.hid rfl, by go_simp, below_n1 _ _⟩
  case round =>
    obtain ⟨k, hk, rfl, HO, hbox, hbk⟩ := hrel
    by_cases hkn : k < n
    · obtain ⟨c0, c1, c2, c3⟩ := four_of HC.out hkn
      replace c0 := held_on hbk c0
      replace c1 := held_on hbk c1
      replace c2 := held_on hbk c2
      replace c3 := held_on hbk c3
      obtain ⟨v, hv⟩ : ∃ v, mayB (L (k * 4)) (L (k * 4 + 1)) (L (k * 4 + 2)) (L (k * 4 + 3)) = v := ⟨_, rfl⟩
      have HM := Lib.hid hv
      clear hv
      replace hbk := hbk.alloc hbk.size (Obj.cells #[.int .i64 (L (k * 4)), .int .i64 (L (k * 4 + 1)), .int .i64 (L (k * 4 + 2)), .int .i64 (L (k * 4 + 3))] 164)
      have hbx : Cell (wr.alloc (Obj.cells #[.int .i64 (L (k * 4)), .int .i64 (L (k * 4 + 1)), .int .i64 (L (k * 4 + 2)), .int .i64 (L (k * 4 + 3))] 164)).drew ⟨w.heap.size, 1, none⟩ (.slice (some ⟨b, off, none⟩) n cap) := (Cell.old hbox _).draw
      have hbd := hbk.drew
      cases v
      · have HE := Lib.hid (show false = rightB way n L from (rightB_bad (k := k) (by unfold okKey; rw [HM.out]; rfl) hkn).symm)
        go_wp2_with fail
        refine wp_region_any (by kernel_rfl) ?_
        (try (change wpAny _ _ _ _ _ _ _ (World.drew _)))
        refine wpAny_ready (rs := [0]) (by kernel_rfl) (by simp) ?_
        refine AllReady.cons rfl (fun K hK => ?_) AllReady.nil
        go_simp
        (refine hK _ _ ?_; clear hK K)
        refine wpAny_ready (rs := [1]) (by kernel_rfl) (by simp) ?_
        refine AllReady.cons rfl (fun K hK => ?_) AllReady.nil
        go_simp
        go_wp2_with (go_at_call 87; with_reducible refine (mayBe_is _ _ _ _ _ HM.out _).mono ?_; rintro e w9 ⟨rfl, hbn⟩; (with_reducible have hb9 := hbd.trans (hbn.mono hbd.size)); (with_reducible have hx9 := hbx.on hbn))
        refine wpAny_take (i := 2) (v := ?_) rfl (by kernel_rfl) (by kernel_rfl) (by kernel_rfl) (fun _ _ _ h => h) (Or.inl ⟨by kernel_rfl, by (intro w; go_simp; try with_reducible rfl)⟩) ?_
        go_simp
        refine wpAny_take (i := 3) (v := ?_) rfl (by kernel_rfl) (by kernel_rfl) (by kernel_rfl) (fun _ _ _ h => h) (Or.inl ⟨by kernel_rfl, by (intro w; go_simp; try with_reducible rfl)⟩) ?_
        go_simp
        refine wpAny_take (i := 4) (v := undef) rfl (by kernel_rfl) (by kernel_rfl) (by kernel_rfl) (fun _ _ _ h => h) (Or.inr ⟨by kernel_rfl, rfl⟩) ?_
        go_simp
        refine wpAny_take (i := 5) (v := undef) rfl (by kernel_rfl) (by kernel_rfl) (by kernel_rfl) (fun _ _ _ h => h) (Or.inr ⟨by kernel_rfl, rfl⟩) ?_
        go_simp
        refine wpAny_take (i := 6) (v := undef) rfl (by kernel_rfl) (by kernel_rfl) (by kernel_rfl) (fun _ _ _ h => h) (Or.inr ⟨by kernel_rfl, rfl⟩) ?_
        go_simp
        refine wpAny_take (i := 7) (v := undef) rfl (by kernel_rfl) (by kernel_rfl) (by kernel_rfl) (fun _ _ _ h => h) (Or.inr ⟨by kernel_rfl, rfl⟩) ?_
        go_simp
        refine wpAny_take (i := 8) (v := undef) rfl (by kernel_rfl) (by kernel_rfl) (by kernel_rfl) (fun _ _ _ h => h) (Or.inr ⟨by kernel_rfl, rfl⟩) ?_
        go_simp
        refine wpAny_take (i := 9) (v := undef) rfl (by kernel_rfl) (by kernel_rfl) (by kernel_rfl) (fun _ _ _ h => h) (Or.inr ⟨by kernel_rfl, rfl⟩) ?_
        go_simp
        refine wpAny_take (i := 10) (v := undef) rfl (by kernel_rfl) (by kernel_rfl) (by kernel_rfl) (fun _ _ _ h => h) (Or.inr ⟨by kernel_rfl, rfl⟩) ?_
        go_simp
        refine wpAny_take (i := 11) (v := undef) rfl (by kernel_rfl) (by kernel_rfl) (by kernel_rfl) (fun _ _ _ h => h) (Or.inr ⟨by kernel_rfl, rfl⟩) ?_
        go_simp
        refine wpAny_take (i := 12) (v := undef) rfl (by kernel_rfl) (by kernel_rfl) (by kernel_rfl) (fun _ _ _ h => h) (Or.inr ⟨by kernel_rfl, rfl⟩) ?_
        go_simp
        refine wpAny_take (i := 13) (v := undef) rfl (by kernel_rfl) (by kernel_rfl) (by kernel_rfl) (fun _ _ _ h => h) (Or.inr ⟨by kernel_rfl, rfl⟩) ?_
        go_simp
        refine wpAny_take (i := 14) (v := undef) rfl (by kernel_rfl) (by kernel_rfl) (by kernel_rfl) (fun _ _ _ h => h) (Or.inr ⟨by kernel_rfl, rfl⟩) ?_
        go_simp
        refine wpAny_take (i := 15) (v := undef) rfl (by kernel_rfl) (by kernel_rfl) (by kernel_rfl) (fun _ _ _ h => h) (Or.inr ⟨by kernel_rfl, rfl⟩) ?_
        go_simp
        refine wpAny_take (i := 16) (v := undef) rfl (by kernel_rfl) (by kernel_rfl) (by kernel_rfl) (fun _ _ _ h => h) (Or.inr ⟨by kernel_rfl, rfl⟩) ?_
        go_simp
        refine wpAny_take (i := 17) (v := undef) rfl (by kernel_rfl) (by kernel_rfl) (by kernel_rfl) (fun _ _ _ h => h) (Or.inr ⟨by kernel_rfl, rfl⟩) ?_
        go_simp
        refine wpAny_take (i := 18) (v := ?_) rfl (by kernel_rfl) (by kernel_rfl) (by kernel_rfl) (fun _ _ _ h => h) (Or.inl ⟨by kernel_rfl, by (intro w; go_simp; try with_reducible rfl)⟩) ?_
        go_simp
        refine wpAny_done (by kernel_rfl) ?_ _
        all_goals (go_wp2; go_ret; exact ⟨ret_bool HE.out, hb9⟩)
      · by_cases hk0 : k = 0
        · have HO1 := Lib.hid (show okUpto L (k + 1) = true by unfold okUpto; rw [HO.out]; unfold okKey; rw [HM.out, decide_eq_true hk0]; rfl)
          have hk1 : ¬ 0 < k := by omega
          have hk2 : ¬ (0 : Int) < k := by omega
          have hk3 : decide ((0 : Int) < (k : Int)) = false := decide_eq_false hk2
          clear hk0
          go_wp2_with fail
          refine wp_region_any (by kernel_rfl) ?_
          (try (change wpAny _ _ _ _ _ _ _ (World.drew _)))
          refine wpAny_ready (rs := [0]) (by kernel_rfl) (by simp) ?_
          refine AllReady.cons rfl (fun K hK => ?_) AllReady.nil
          go_simp
          (refine hK _ _ ?_; clear hK K)
          refine wpAny_ready (rs := [1]) (by kernel_rfl) (by simp) ?_
          refine AllReady.cons rfl (fun K hK => ?_) AllReady.nil
          go_simp
          go_wp2_with (go_at_call 87; with_reducible refine (mayBe_is _ _ _ _ _ HM.out _).mono ?_; rintro e w9 ⟨rfl, hbn⟩; (with_reducible have hb9 := hbd.trans (hbn.mono hbd.size)); (with_reducible have hx9 := hbx.on hbn))
          refine wpAny_take (i := 2) (v := ?_) rfl (by kernel_rfl) (by kernel_rfl) (by kernel_rfl) (fun _ _ _ h => h) (Or.inl ⟨by kernel_rfl, by (intro w; go_simp; try with_reducible rfl)⟩) ?_
          go_simp
          refine wpAny_take (i := 3) (v := ?_) rfl (by kernel_rfl) (by kernel_rfl) (by kernel_rfl) (fun _ _ _ h => h) (Or.inl ⟨by kernel_rfl, by (intro w; go_simp; try with_reducible rfl)⟩) ?_
          go_simp
          refine wpAny_take (i := 4) (v := ?_) rfl (by kernel_rfl) (by kernel_rfl) (by kernel_rfl) (fun _ _ _ h => h) (Or.inl ⟨by kernel_rfl, by (intro w; go_simp; try with_reducible rfl)⟩) ?_
          go_simp
          refine wpAny_take (i := 5) (v := ?_) rfl (by kernel_rfl) (by kernel_rfl) (by kernel_rfl) (fun _ _ _ h => h) (Or.inl ⟨by kernel_rfl, by (intro w; go_simp; try with_reducible rfl)⟩) ?_
          go_simp
          refine wpAny_take (i := 6) (v := ?_) rfl (by kernel_rfl) (by kernel_rfl) (by kernel_rfl) (fun _ _ _ h => h) (Or.inl ⟨by kernel_rfl, by (intro w; go_simp; try with_reducible rfl)⟩) ?_
          go_simp
          refine wpAny_take (i := 7) (v := undef) rfl (by kernel_rfl) (by kernel_rfl) (by kernel_rfl) (fun _ _ _ h => h) (Or.inr ⟨by kernel_rfl, rfl⟩) ?_
          go_simp
          refine wpAny_take (i := 8) (v := undef) rfl (by kernel_rfl) (by kernel_rfl) (by kernel_rfl) (fun _ _ _ h => h) (Or.inr ⟨by kernel_rfl, rfl⟩) ?_
          go_simp
          refine wpAny_take (i := 9) (v := undef) rfl (by kernel_rfl) (by kernel_rfl) (by kernel_rfl) (fun _ _ _ h => h) (Or.inr ⟨by kernel_rfl, rfl⟩) ?_
          go_simp
          refine wpAny_take (i := 10) (v := undef) rfl (by kernel_rfl) (by kernel_rfl) (by kernel_rfl) (fun _ _ _ h => h) (Or.inr ⟨by kernel_rfl, rfl⟩) ?_
          go_simp
          refine wpAny_take (i := 11) (v := undef) rfl (by kernel_rfl) (by kernel_rfl) (by kernel_rfl) (fun _ _ _ h => h) (Or.inr ⟨by kernel_rfl, rfl⟩) ?_
          go_simp
          refine wpAny_take (i := 12) (v := undef) rfl (by kernel_rfl) (by kernel_rfl) (by kernel_rfl) (fun _ _ _ h => h) (Or.inr ⟨by kernel_rfl, rfl⟩) ?_
          go_simp
          refine wpAny_take (i := 13) (v := undef) rfl (by kernel_rfl) (by kernel_rfl) (by kernel_rfl) (fun _ _ _ h => h) (Or.inr ⟨by kernel_rfl, rfl⟩) ?_
          go_simp
          refine wpAny_take (i := 14) (v := undef) rfl (by kernel_rfl) (by kernel_rfl) (by kernel_rfl) (fun _ _ _ h => h) (Or.inr ⟨by kernel_rfl, rfl⟩) ?_
          go_simp
          refine wpAny_take (i := 15) (v := undef) rfl (by kernel_rfl) (by kernel_rfl) (by kernel_rfl) (fun _ _ _ h => h) (Or.inr ⟨by kernel_rfl, rfl⟩) ?_
          go_simp
          refine wpAny_take (i := 16) (v := undef) rfl (by kernel_rfl) (by kernel_rfl) (by kernel_rfl) (fun _ _ _ h => h) (Or.inr ⟨by kernel_rfl, rfl⟩) ?_
          go_simp
          refine wpAny_take (i := 17) (v := ?_) rfl (by kernel_rfl) (by kernel_rfl) (by kernel_rfl) (fun _ _ _ h => h) (Or.inl ⟨by kernel_rfl, by (intro w; go_simp; try with_reducible rfl)⟩) ?_
          go_simp
          refine wpAny_take (i := 18) (v := ?_) rfl (by kernel_rfl) (by kernel_rfl) (by kernel_rfl) (fun _ _ _ h => h) (Or.inl ⟨by kernel_rfl, by (intro w; go_simp; try with_reducible rfl)⟩) ?_
          go_simp
          refine wpAny_done (by kernel_rfl) ?_ _
          all_goals
            go_wp2
            go_roundw
            case rel => exact ⟨k + 1, by omega, by go_num, HO1, hx9.is, hb9⟩
            case measure => simp [intOf]; omega
        · obtain ⟨m, hm⟩ : ∃ m, k = m + 1 := ⟨k - 1, by omega⟩
          have hk1 : 0 < k := by omega
          have hk2 : (0 : Int) < k := by omega
          have hmn : m < n := by omega
          have m1 : IntKind.i64.wrap (m : Int) = (m : Int) := IntWalk.i64_in _ (by omega)
          have m2 : (k : Int) - 1 = (m : Int) := by omega
          have m3 : (0 : Int) ≤ (m : Int) := by omega
          have hmn' : (m : Int) < n := by omega
          have m4 : ((m : Nat) : Int).toNat = m := by simp
          have p0 := held_on (hbk) ((four_of HC.out hmn).1)
          have HK := Lib.hid (show okKey L k = decide (L (m * 4) < L (k * 4)) by unfold okKey; rw [HM.out, hm]; simp)
          clear hm hk0
          by_cases ht : L (m * 4) < L (k * 4)
          · have ht' : ¬ L (k * 4) ≤ L (m * 4) := by omega
            have HO1 := Lib.hid (show okUpto L (k + 1) = true by unfold okUpto; rw [HO.out, HK.out, decide_eq_true ht]; rfl)
            go_wp2_with fail
            go_region_held3 (fun w' => w'.cell? ⟨w.heap.size, 1, none⟩ = some (.slice (some ⟨b, off, none⟩) n cap) ∧ w'.cell? ⟨wr.heap.size, 0, none⟩ = some (.int .i64 (L (k * 4))) ∧ w'.cell? ⟨wr.heap.size, 1, none⟩ = some (.int .i64 (L (k * 4 + 1))) ∧ w'.cell? ⟨wr.heap.size, 2, none⟩ = some (.int .i64 (L (k * 4 + 2))) ∧ w'.cell? ⟨wr.heap.size, 3, none⟩ = some (.int .i64 (L (k * 4 + 3))) ∧ w'.cell? ⟨b, off + m * 4, none⟩ = some (.int .i64 (L (m * 4)))) (first | (go_keep; done) | (go_split_ands; (try dsimp only); exact ⟨held_on hbn (by assumption), held_on hbn (by assumption), held_on hbn (by assumption), held_on hbn (by assumption), held_on hbn (by assumption), held_on hbn (by assumption)⟩)) (first | (go_at_call 87; with_reducible refine (mayBe_is _ _ _ _ _ HM.out _).mono ?_; rintro e w9 ⟨rfl, hbn⟩; (first | (replace hbk := hbk.trans (hbn.mono hbk.size)) | (replace hbk := hbk.drew.trans (hbn.mono hbk.drew.size)))))
            go_wp2
            go_roundw
            case rel => exact ⟨k + 1, by omega, by go_num, HO1, by first | assumption | (go_split_ands; assumption), hbk⟩
            case measure => simp [intOf]; omega
          · have ht' : L (k * 4) ≤ L (m * 4) := by omega
            have HE := Lib.hid (show false = rightB way n L from (rightB_bad (k := k) (by rw [HK.out, decide_eq_false ht]) hkn).symm)
            go_wp2_with fail
            go_region_held3 (fun w' => w'.cell? ⟨w.heap.size, 1, none⟩ = some (.slice (some ⟨b, off, none⟩) n cap) ∧ w'.cell? ⟨wr.heap.size, 0, none⟩ = some (.int .i64 (L (k * 4))) ∧ w'.cell? ⟨wr.heap.size, 1, none⟩ = some (.int .i64 (L (k * 4 + 1))) ∧ w'.cell? ⟨wr.heap.size, 2, none⟩ = some (.int .i64 (L (k * 4 + 2))) ∧ w'.cell? ⟨wr.heap.size, 3, none⟩ = some (.int .i64 (L (k * 4 + 3))) ∧ w'.cell? ⟨b, off + m * 4, none⟩ = some (.int .i64 (L (m * 4)))) (first | (go_keep; done) | (go_split_ands; (try dsimp only); exact ⟨held_on hbn (by assumption), held_on hbn (by assumption), held_on hbn (by assumption), held_on hbn (by assumption), held_on hbn (by assumption), held_on hbn (by assumption)⟩)) (first | (go_at_call 87; with_reducible refine (mayBe_is _ _ _ _ _ HM.out _).mono ?_; rintro e w9 ⟨rfl, hbn⟩; (first | (replace hbk := hbk.trans (hbn.mono hbk.size)) | (replace hbk := hbk.drew.trans (hbn.mono hbk.drew.size)))))
            go_wp2
            go_ret
            exact ⟨ret_bool HE.out, hbk⟩
    · have HE := Lib.hid (show true = rightB way n L from (HG.out (by rw [show n = k by omega]; exact HO.out)).symm)
      go_wp2
      go_ret
      exact ⟨ret_bool HE.out, hbk⟩

theorem right_any (way : Int) (a : Option Addr) (n cap : Nat) (L : Nat → Int) (w : World) (hr : KeysAt w a n L) :
    Calls Tryz.prog 44 #[.agg #[.int .i64 way, .slice a n cap]] w fun e w' => e = .returned (.bool (rightB way n L)) ∧ Below w.heap.size w w' := by
  obtain ⟨h0, hr⟩ := hr
  by_cases h : 0 ≤ way ∧ way ≤ 2 ∧ 1 ≤ n ∧ n ≤ 16
  · rcases hr with h' | ⟨b, off, rfl, -, hc⟩
    · omega
    · exact right_row way b off n cap L h w hc
  · rw [rightB_shape h]; exact right_shape way a n cap h (by omega) w
end Go.Proofs.YtfbppiamlolfpaaGreat.Tk
