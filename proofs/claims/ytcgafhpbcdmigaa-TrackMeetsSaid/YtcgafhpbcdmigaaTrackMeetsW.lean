/- The walk of TrackMeets: the law returns true, whatever track and whatever time come in; nothing that was there is written. -/
import Derived.Test.YtcgafhpbcdmigaaTrackW
namespace Go.Proofs.Ytcgafhpbcdmigaa.trackMeetsW
open Go.RowKit Go.Proofs.Ytcgafhpbcdmigaa Go.Proofs.Ytcgafhpbcdmigaa.Wa Go.Proofs.Ytcgafhpbcdmigaa.Ve Go.Proofs.Ytcgafhpbcdmigaa.Tk Go.Proofs.Ytcgafhpbcdmigaa.Tb Go.Proofs.Ytcgafhpbcdmigaa.tracksW

set_option maxHeartbeats 4000000 in
set_option maxRecDepth 100000 in
theorem walk (way : Int) (a : Option Addr) (n cap : Nat) (L : Nat → Int) (t : Int) (w : World) (hk : KeysAt w a n L) :
    Calls Try.prog 8 #[.agg #[.int .i64 way, .slice a n cap], .int .i64 t] w fun e w' => e = .returned (.bool true) ∧ Below w.heap.size w w' := by
  have hn := hk.1
  have hk0 := hk.on (below_n1 w (.cells #[.int .i64 way, .slice a n cap] 55))
  go_enter Try.func8, Try.ntmps8
  go_wp2_with fail
  refine (tto_any _ _ _ _ _ _ hk0).mono ?_
  rintro e w1 ⟨⟨a', cap', rfl, hk1⟩, hb1⟩
  have hti := ti_start (cap' := cap') hk hk1 hb1
  clear hk0 hk1 hb1 hk
  by_cases h60 : 60 < n
  · have h60' : (60 : Int) < n := by omega
    obtain ⟨b0, b1, x0, x1, -, -, hbk⟩ := hti
    go_wp2_with (go_at_call 34; refine (Tn.awake_any _).mono ?_; rintro e w9 ⟨rfl, hb9⟩)
    go_ret
    exact ⟨rfl, hbk.trans (hb9.mono hbk.size)⟩
  have h60' : ¬ (60 : Int) < n := by omega
  obtain ⟨b0, b1, x0, x1, hka, hkx, hbk⟩ := id hti
  cases hv : rightB way n L
  · have HV := Lib.hid hv
    clear hv
    go_wp2_with fail
    refine (right_is _ _ _ _ _ false HV.out _ hkx).mono ?_
    rintro e w2 ⟨rfl, hb2⟩
    have ht2 := hti.on hb2
    obtain ⟨-, -, -, -, -, -, hbk2⟩ := ht2
    go_wp2_with (go_at_call 34; refine (Tn.awake_any _).mono ?_; rintro e w9 ⟨rfl, hb9⟩)
    go_ret
    exact ⟨rfl, hbk2.trans (hb9.mono hbk2.size)⟩
  · have HV := Lib.hid hv
    clear hv
    go_wp2_with fail
    refine (right_is _ _ _ _ _ true HV.out _ hkx).mono ?_
    rintro e w2 ⟨rfl, hb2⟩
    have ht2 := hti.on hb2
    obtain ⟨xb, hxb⟩ : ∃ xb, xb = w1.heap.size := ⟨_, rfl⟩
    rw [← hxb] at ht2 ⊢
    clear b0 b1 x0 x1 hka hkx hbk hti hb2 hxb
    have HT2 := Lib.hid ht2
    obtain ⟨b0, b1, x0, x1, hka, hkx, hbk⟩ := ht2
    go_wp2_with fail
    clear b0 b1 x0 x1 hka hkx hbk
    go_loopw [28] (fun s wr => ∃ k : Nat, k ≤ n ∧ s = .int .i64 k ∧ TI w xb way a a' n cap cap' L wr) (fun s _ => n - (intOf s).toNat)
    case atStart => exact ⟨0, by omega, rfl, HT2.out⟩
    case round =>
      obtain ⟨k, hkn, rfl, hti⟩ := hrel
      clear HT2
      by_cases hlt : k < n
      · have hlt' : (k : Int) < n := by omega
        obtain ⟨-, -, x0, x1, -, hkx, hbk⟩ := id hti
        obtain ⟨-, h' | ⟨b, off, rfl, hb, hcs⟩⟩ := id hkx
        · omega
        obtain ⟨c0, c1, c2, c3⟩ := four_of hcs hlt
        clear hcs
        have hz0 := World.block_lt_of_cell? _ _ x0
        simp only at hz0
        have HTA := Lib.hid ((hti.on (below_n1 wr (Obj.cells #[.int .i64 (L (k * 4)), .int .i64 (L (k * 4 + 1)), .int .i64 (L (k * 4 + 2)), .int .i64 (L (k * 4 + 3))] 72))).draw)
        have hkd : KeysAt ((wr.alloc (Obj.cells #[.int .i64 (L (k * 4)), .int .i64 (L (k * 4 + 1)), .int .i64 (L (k * 4 + 2)), .int .i64 (L (k * 4 + 3))] 72)).drew) (some ⟨b, off, none⟩) n L := (hkx.on (below_n1 wr (Obj.cells #[.int .i64 (L (k * 4)), .int .i64 (L (k * 4 + 1)), .int .i64 (L (k * 4 + 2)), .int .i64 (L (k * 4 + 3))] 72)) : KeysAt (wr.alloc (Obj.cells #[.int .i64 (L (k * 4)), .int .i64 (L (k * 4 + 1)), .int .i64 (L (k * 4 + 2)), .int .i64 (L (k * 4 + 3))] 72)) _ _ _)
        have HOWN := Lib.hid (And.intro (val_own HV.out (k := k) (c := 1) hlt (by omega) (by omega)) (And.intro (val_own HV.out (k := k) (c := 2) hlt (by omega) (by omega)) (val_own HV.out (k := k) (c := 3) hlt (by omega) (by omega))))
        have hxne : xb ≠ wr.heap.size := by omega
        go_wp2_with fail
        go_region_held3 (fun w' => w'.cell? ⟨xb, 0, none⟩ = some (.int .i64 way) ∧ w'.cell? ⟨xb, 1, none⟩ = some (.slice (some ⟨b, off, none⟩) n cap') ∧ w'.cell? ⟨wr.heap.size, 0, none⟩ = some (.int .i64 (L (k * 4))) ∧ w'.cell? ⟨wr.heap.size, 1, none⟩ = some (.int .i64 (L (k * 4 + 1))) ∧ w'.cell? ⟨wr.heap.size, 2, none⟩ = some (.int .i64 (L (k * 4 + 2))) ∧ w'.cell? ⟨wr.heap.size, 3, none⟩ = some (.int .i64 (L (k * 4 + 3)))) (first | (go_keep; done) | (go_split_ands; (try dsimp only); exact ⟨held_on hbn (by assumption), held_on hbn (by assumption), held_on hbn (by assumption), held_on hbn (by assumption), held_on hbn (by assumption), held_on hbn (by assumption)⟩)) (first | (go_at_call 41; refine (at_is _ _ _ _ _ _ _ _ _ HOWN.out _ hkd).mono ?_; rintro e w9 ⟨rfl, hbn⟩))
        have hte := HTA.out.on hbn
        go_wp2
        go_roundw
        case rel => exact ⟨k + 1, by omega, by go_num, hte⟩
        case measure => simp [intOf]; omega
      · obtain rfl : k = n := by omega
        clear hkn hlt
        obtain ⟨b0, b1, x0, x1, hka, hkx, hbk⟩ := id hti
        have hpb := plc_bd L t k
        by_cases hp : plc L t k = -1
        · have HP := Lib.hid hp
          clear hp hpb
          go_wp2_with fail
          refine (place_is _ _ _ _ _ _ (-1) HP.out _ hkx).mono ?_
          rintro e w2 ⟨rfl, hb2⟩
          have ht2 := hti.on hb2
          clear b0 b1 x0 x1 hka hkx hbk hti hb2
          obtain ⟨b0, b1, x0, x1, hka, hkx, hbk⟩ := ht2
          go_wp2_with (go_at_call 34; refine (Tn.awake_any _).mono ?_; rintro e w9 ⟨rfl, hb9⟩)
          go_ret
          exact ⟨rfl, hbk.trans (hb9.mono hbk.size)⟩
        · obtain ⟨p, hpp⟩ : ∃ p : Nat, plc L t k = p := ⟨(plc L t k).toNat, by omega⟩
          have hpk : p < k := by omega
          have HP := Lib.hid hpp
          have q4 : ¬ (p : Int) < 0 := by omega
          clear hp hpb hpp
          go_wp2_with fail
          refine (place_is _ _ _ _ _ _ (p : Int) HP.out _ hkx).mono ?_
          rintro e w2 ⟨rfl, hb2⟩
          have ht2 := hti.on hb2
          clear b0 b1 x0 x1 hka hkx hbk hti hb2
          obtain ⟨b0, b1, x0, x1, hka, hkx, hbk⟩ := id ht2
          by_cases hl : p + 1 = k
          · have e1 : (k : Int) - 1 = p := by omega
            clear hl
            go_wp2_with (go_at_call 34; refine (Tn.awake_any _).mono ?_; rintro e w9 ⟨rfl, hb9⟩)
            go_ret
            exact ⟨rfl, hbk.trans (hb9.mono hbk.size)⟩
          · have hl' : p + 1 < k := by omega
            have q9 : ((p : Int) == (k : Int) - 1) = false := by simp; omega
            have q10 : decide ((p : Int) = (k : Int) - 1) = false := by simp; omega
            have q11 : ¬ (p : Int) = (k : Int) - 1 := by omega
            have B1 := val_between HV.out HP.out hl' (c := 1) (by omega) (by omega)
            have B2 := val_between HV.out HP.out hl' (c := 2) (by omega) (by omega)
            have B3 := val_between HV.out HP.out hl' (c := 3) (by omega) (by omega)
            obtain ⟨v1, hv1⟩ : ∃ v, valN way k L t 1 = v := ⟨_, rfl⟩
            obtain ⟨v2, hv2⟩ : ∃ v, valN way k L t 2 = v := ⟨_, rfl⟩
            obtain ⟨v3, hv3⟩ : ∃ v, valN way k L t 3 = v := ⟨_, rfl⟩
            rw [hv1] at B1
            rw [hv2] at B2
            rw [hv3] at B3
            have HVV := Lib.hid (And.intro hv1 (And.intro hv2 hv3))
            clear hv1 hv2 hv3 hl
            have d1 : decide (v1 < min (L (p * 4 + 1)) (L ((p + 1) * 4 + 1))) = false := decide_eq_false (by omega)
            have d2 : decide (v2 < min (L (p * 4 + 2)) (L ((p + 1) * 4 + 2))) = false := decide_eq_false (by omega)
            have d3 : decide (v3 < min (L (p * 4 + 3)) (L ((p + 1) * 4 + 3))) = false := decide_eq_false (by omega)
            have e1 : decide (max (L (p * 4 + 1)) (L ((p + 1) * 4 + 1)) < v1) = false := decide_eq_false (by omega)
            have e2 : decide (max (L (p * 4 + 2)) (L ((p + 1) * 4 + 2)) < v2) = false := decide_eq_false (by omega)
            have e3 : decide (max (L (p * 4 + 3)) (L ((p + 1) * 4 + 3)) < v3) = false := decide_eq_false (by omega)
            clear B1 B2 B3
            go_wp2_with fail
            refine (at_is _ _ _ _ _ _ v1 v2 v3 HVV.out _ hkx).mono ?_
            rintro e w3 ⟨rfl, hb3⟩
            go_wp2_with fail
            refine (from_any _ _ _ _).mono ?_
            rintro e w4 ⟨rfl, hb4⟩
            have ht4 := (ht2.on hb3).on hb4
            clear b0 b1 x0 x1 hka hkx hbk ht2 hb3 hb4
            obtain ⟨vb, hvb⟩ : ∃ vb, vb = w4.heap.size := ⟨_, rfl⟩
            obtain ⟨w5, hw5⟩ : ∃ w5, w5 = w4.alloc (Obj.cells #[.int .i64 v1, .int .i64 v2, .int .i64 v3] 64) := ⟨_, rfl⟩
            have ht5 : TI w xb way a a' k cap cap' L w5 := by rw [hw5]; exact ht4.on (below_n1 _ _)
            have y0 : w5.cell? ⟨vb, 0, none⟩ = some (.int .i64 v1) := by rw [hw5, hvb]; go_simp
            have y1 : w5.cell? ⟨vb, 1, none⟩ = some (.int .i64 v2) := by rw [hw5, hvb]; go_simp
            have y2 : w5.cell? ⟨vb, 2, none⟩ = some (.int .i64 v3) := by rw [hw5, hvb]; go_simp
            have z1 : vb < w5.heap.size := by rw [hw5, hvb]; simp
            obtain ⟨-, b1, -, -, hka, -, hbk⟩ := ht5
            have hz := hbk.size
            have z2 : w.heap.size < w5.heap.size := World.block_lt_of_cell? _ _ b1
            obtain ⟨-, h' | ⟨b, off, rfl, z0, hcs⟩⟩ := hka
            · omega
            obtain ⟨-, k1, k2, k3⟩ := four_of hcs hpk
            obtain ⟨-, m1, m2, m3⟩ := four_of hcs hl'
            clear hcs ht4
            have q1 : (p : Int) < k := by omega
            have q2 : (0 : Int) ≤ p := by omega
            have q5 : IntKind.i64.wrap ((p : Int) + 1) = (p : Int) + 1 := IntWalk.i64_in _ (by omega)
            have q6 : (p : Int) + 1 < k := by omega
            have q7 : (0 : Int) ≤ (p : Int) + 1 := by omega
            have q8 : ((p : Int) + 1).toNat = p + 1 := by omega
            have z3 : b ≠ w5.heap.size := by omega
            have z4 : w.heap.size ≠ w5.heap.size := by omega
            have z5 : vb ≠ w5.heap.size := by omega
            have z6 : b < w5.heap.size + 1 := by omega
            have z7 : w.heap.size < w5.heap.size + 1 := by omega
            have z8 : vb < w5.heap.size + 1 := by omega
            go_upto_region 14 with fail
            rw [← hw5, ← hvb]
            clear hw5 hvb
            go_cut [10, 11] (fun s10 s11 wx => ∃ g h : Nat, s10 = .pointer (some ⟨g, 0, none⟩) ∧ s11 = .pointer (some ⟨h, 0, none⟩) ∧ wx.cell? ⟨g, 0, none⟩ = some (.int .i64 (L (p * 4 + 1))) ∧ wx.cell? ⟨g, 1, none⟩ = some (.int .i64 (L (p * 4 + 2))) ∧ wx.cell? ⟨g, 2, none⟩ = some (.int .i64 (L (p * 4 + 3))) ∧ wx.cell? ⟨h, 0, none⟩ = some (.int .i64 (L ((p + 1) * 4 + 1))) ∧ wx.cell? ⟨h, 1, none⟩ = some (.int .i64 (L ((p + 1) * 4 + 2))) ∧ wx.cell? ⟨h, 2, none⟩ = some (.int .i64 (L ((p + 1) * 4 + 3))) ∧ wx.cell? ⟨vb, 0, none⟩ = some (.int .i64 v1) ∧ wx.cell? ⟨vb, 1, none⟩ = some (.int .i64 v2) ∧ wx.cell? ⟨vb, 2, none⟩ = some (.int .i64 v3) ∧ Below w.heap.size w wx)
            case first =>
              go_region_held3 (fun w' => w'.cell? ⟨w.heap.size, 1, none⟩ = some (.slice (some ⟨b, off, none⟩) k cap) ∧ w'.cell? ⟨b, off + p * 4 + 1, none⟩ = some (.int .i64 (L (p * 4 + 1))) ∧ w'.cell? ⟨b, off + p * 4 + 2, none⟩ = some (.int .i64 (L (p * 4 + 2))) ∧ w'.cell? ⟨b, off + p * 4 + 3, none⟩ = some (.int .i64 (L (p * 4 + 3))) ∧ w'.cell? ⟨b, off + (p + 1) * 4 + 1, none⟩ = some (.int .i64 (L ((p + 1) * 4 + 1))) ∧ w'.cell? ⟨b, off + (p + 1) * 4 + 2, none⟩ = some (.int .i64 (L ((p + 1) * 4 + 2))) ∧ w'.cell? ⟨b, off + (p + 1) * 4 + 3, none⟩ = some (.int .i64 (L ((p + 1) * 4 + 3)))) (first | (go_keep; done) | ((try dsimp only); refine ⟨?_, ?_, ?_, ?_, ?_, ?_, ?_⟩ <;> (go_simp; done))) (first | (go_at_call 99999; fail))
              all_goals (go_wp2_with fail; go_meet; refine ⟨_, _, rfl, rfl, ?_, ?_, ?_, ?_, ?_, ?_, ?_, ?_, ?_, ?_⟩)
              all_goals first | (go_simp; done) | (repeat (first | exact hbk | apply Below.drew | (refine Below.alloc ?_ (by first | omega | (simp; done) | (simp; omega)) _)))
            case rest =>
              obtain ⟨g, h, rfl, rfl, g0, g1, g2, h0, h1, h2, y0, y1, y2, hbk⟩ := hcut
              go_wp2
              refine wp_loop_rounds 4 ?_
              rw [rounds_succ]
              go_wp2_with fail
              go_region_held3 (fun w' => w'.cell? ⟨vb, 0, none⟩ = some (.int .i64 v1) ∧ w'.cell? ⟨g, 0, none⟩ = some (.int .i64 (L (p * 4 + 1))) ∧ w'.cell? ⟨h, 0, none⟩ = some (.int .i64 (L ((p + 1) * 4 + 1)))) (first | (go_keep; done) | (refine ⟨?_, ?_, ?_⟩ <;> (go_simp; done))) (first | (go_at_call 99999; fail))
              go_wp2
              rw [rounds_succ]
              go_wp2_with fail
              go_region_held3 (fun w' => w'.cell? ⟨vb, 1, none⟩ = some (.int .i64 v2) ∧ w'.cell? ⟨g, 1, none⟩ = some (.int .i64 (L (p * 4 + 2))) ∧ w'.cell? ⟨h, 1, none⟩ = some (.int .i64 (L ((p + 1) * 4 + 2)))) (first | (go_keep; done) | (refine ⟨?_, ?_, ?_⟩ <;> (go_simp; done))) (first | (go_at_call 99999; fail))
              go_wp2
              rw [rounds_succ]
              go_wp2_with fail
              go_region_held3 (fun w' => w'.cell? ⟨vb, 2, none⟩ = some (.int .i64 v3) ∧ w'.cell? ⟨g, 2, none⟩ = some (.int .i64 (L (p * 4 + 3))) ∧ w'.cell? ⟨h, 2, none⟩ = some (.int .i64 (L ((p + 1) * 4 + 3)))) (first | (go_keep; done) | (refine ⟨?_, ?_, ?_⟩ <;> (go_simp; done))) (first | (go_at_call 99999; fail))
              go_wp2
              rw [rounds_succ]
              go_wp2_with (go_at_call 34; refine (Tn.awake_any _).mono ?_; rintro e w9 ⟨rfl, hb9⟩)
              go_ret
              exact ⟨rfl, by first | exact hbk.drew.drew.drew.trans (hb9.mono hbk.size) | exact hbk.trans (hb9.mono hbk.size)⟩
end Go.Proofs.Ytcgafhpbcdmigaa.trackMeetsW
