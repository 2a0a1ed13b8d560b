/- The walk of TrackValues: the law returns true, whatever track and whatever time come in; nothing that was there is written. -/
import Derived.Test.YtcgafhpbcdmigaaTrackW
import Derived.Test.YtcgafhpbcdmigaaTz
namespace Go.Proofs.Ytcgafhpbcdmigaa.trackValuesW
open Go.RowKit Go.Proofs.Ytcgafhpbcdmigaa Go.Proofs.Ytcgafhpbcdmigaa.Wa Go.Proofs.Ytcgafhpbcdmigaa.Ve Go.Proofs.Ytcgafhpbcdmigaa.Tk Go.Proofs.Ytcgafhpbcdmigaa.Tb Go.Proofs.Ytcgafhpbcdmigaa.tracksW

theorem rat_is (way : Int) (a : Option Addr) (n cap : Nat) (L : Nat → Int) (t v1 v2 v3 : Int) (h : valN way n L t 1 = v1 ∧ valN way n L t 2 = v2 ∧ valN way n L t 3 = v3) (w : World) (hk : KeysAt w a n L) :
    Calls Try.prog 42 #[.agg #[.int .i64 way, .slice a n cap], .int .i64 t] w fun e w' => e = .returned (V3 v1 v2 v3) ∧ Below w.heap.size w w' := by
  obtain ⟨rfl, rfl, rfl⟩ := h; exact rat_any way a n cap L t w hk

theorem TI.ka {w : World} {xb : Nat} {way : Int} {a a' : Option Addr} {n cap cap' : Nat} {L : Nat → Int} {wr : World} (h : TI w xb way a a' n cap cap' L wr) : KeysAt wr a n L := h.2.2.2.2.1
theorem TI.kx {w : World} {xb : Nat} {way : Int} {a a' : Option Addr} {n cap cap' : Nat} {L : Nat → Int} {wr : World} (h : TI w xb way a a' n cap cap' L wr) : KeysAt wr a' n L := h.2.2.2.2.2.1
theorem TI.below {w : World} {xb : Nat} {way : Int} {a a' : Option Addr} {n cap cap' : Nat} {L : Nat → Int} {wr : World} (h : TI w xb way a a' n cap cap' L wr) : Below w.heap.size w wr := h.2.2.2.2.2.2

set_option maxHeartbeats 4000000 in
set_option maxRecDepth 100000 in
theorem walk (way : Int) (a : Option Addr) (n cap : Nat) (L : Nat → Int) (t : Int) (w : World) (hk : KeysAt w a n L) :
    Calls Try.prog 7 #[.agg #[.int .i64 way, .slice a n cap], .int .i64 t] w fun e w' => e = .returned (.bool true) ∧ Below w.heap.size w w' := by
  have hn := hk.1
  have heq := eq_v3
  have hk0 := hk.on (below_n1 w (.cells #[.int .i64 way, .slice a n cap] 55))
  by_cases h60 : 60 < n
  · have h60' : (60 : Int) < n := by omega
    go_enter Try.func7, Try.ntmps7
    go_wp2_with (go_at_call 34; refine (Tn.awake_any _).mono ?_; rintro e w9 ⟨rfl, hbn⟩)
    go_ret
    exact ⟨rfl, below_c1 hbn⟩
  have h60' : ¬ (60 : Int) < n := by omega
  go_enter Try.func7, Try.ntmps7
  go_wp2_with fail
  refine (tto_any _ _ _ _ _ _ hk0).mono ?_
  rintro e w1 ⟨⟨a', cap', rfl, hk1⟩, hb1⟩
  have hti := (ti_start (cap' := cap') hk hk1 hb1)
  clear hk0 hk1 hb1 hk
  obtain ⟨xb, hxb⟩ : ∃ xb, xb = w1.heap.size := ⟨_, rfl⟩
  obtain ⟨w2, hw2⟩ : ∃ w2, w2 = w1.alloc (Obj.cells #[.int .i64 way, .slice a' n cap'] 58) := ⟨_, rfl⟩
  rw [← hw2, ← hxb] at hti
  go_upto_region 4 with fail
  rw [← hw2, ← hxb]
  clear hw2 hxb
  replace hti := hti.draw
  obtain ⟨b0, b1, x0, x1, hka, hkx, hbk⟩ := id hti
  go_cut [30] (fun s30 wx => s30 = .bool false ∧ TI w xb way a a' n cap cap' L wx)
  case first =>
    cases hv : rightB way n L
    · have HV := Lib.hid hv
      clear hv
      refine wp_region_any (by kernel_rfl) ?_
      (try (change wpAny _ _ _ _ _ _ _ (World.drew _)))
      refine wpAny_ready (rs := [0, 2]) (by kernel_rfl) (by simp) ?_
      refine AllReady.cons rfl (fun K hK => ?_) (AllReady.cons rfl (fun K hK => ?_) AllReady.nil)
      · skip
        go_simp
        (refine hK _ _ ?_; clear hK K)
        refine wpAny_ready (rs := [1, 2]) (by kernel_rfl) (by simp) ?_
        refine AllReady.cons rfl (fun K hK => ?_) (AllReady.cons rfl (fun K hK => ?_) AllReady.nil)
        · skip
          go_simp
          go_wp2_with (go_at_call 36; refine (right_is _ _ _ _ _ false HV.out _ hkx).mono ?_; rintro e w9 ⟨rfl, hbn⟩; replace hti := hti.on hbn; clear b0 b1 x0 x1 hka hkx hbk hbn; obtain ⟨b0, b1, x0, x1, hka, hkx, hbk⟩ := id hti)
          refine wpAny_ready (rs := [2]) (by kernel_rfl) (by simp) ?_
          refine AllReady.cons rfl (fun K hK => ?_) AllReady.nil
          go_simp
          (refine hK _ _ ?_; clear hK K)
          refine wpAny_ready (rs := [3]) (by kernel_rfl) (by simp) ?_
          refine AllReady.cons rfl (fun K hK => ?_) AllReady.nil
          go_simp
          go_wp2_with (go_at_call 37; refine (rright_is _ _ _ _ _ false HV.out _ hka).mono ?_; rintro e w9 ⟨rfl, hbn⟩; replace hti := hti.on hbn; clear b0 b1 x0 x1 hka hkx hbk hbn; obtain ⟨b0, b1, x0, x1, hka, hkx, hbk⟩ := id hti)
          refine wpAny_take (i := 4) (v := ?_) rfl (by kernel_rfl) (by kernel_rfl) (by kernel_rfl) (fun _ _ _ h => h) (Or.inl ⟨by kernel_rfl, by (intro w; go_simp; try with_reducible rfl)⟩) ?_
          go_simp
          refine wpAny_take (i := 5) (v := ?_) rfl (by kernel_rfl) (by kernel_rfl) (by kernel_rfl) (fun _ _ _ h => h) (Or.inl ⟨by kernel_rfl, by (intro w; go_simp; try with_reducible rfl)⟩) ?_
          go_simp
          refine wpAny_ready (rs := [6]) (by kernel_rfl) (by simp) ?_
          refine AllReady.cons rfl (fun K hK => ?_) AllReady.nil
          go_simp
          (refine hK _ _ ?_; clear hK K)
          refine wpAny_ready (rs := [7]) (by kernel_rfl) (by simp) ?_
          refine AllReady.cons rfl (fun K hK => ?_) AllReady.nil
          go_simp
          go_wp2_with (go_at_call 37; refine (rright_is _ _ _ _ _ false HV.out _ hka).mono ?_; rintro e w9 ⟨rfl, hbn⟩; replace hti := hti.on hbn; clear b0 b1 x0 x1 hka hkx hbk hbn; obtain ⟨b0, b1, x0, x1, hka, hkx, hbk⟩ := id hti)
          refine wpAny_take (i := 8) (v := ?_) rfl (by kernel_rfl) (by kernel_rfl) (by kernel_rfl) (fun _ _ _ h => h) (Or.inl ⟨by kernel_rfl, by (intro w; go_simp; try with_reducible rfl)⟩) ?_
          go_simp
          refine wpAny_take (i := 9) (v := undef) rfl (by kernel_rfl) (by kernel_rfl) (by kernel_rfl) (fun _ _ _ h => h) (Or.inr ⟨by kernel_rfl, rfl⟩) ?_
          go_simp
          refine wpAny_take (i := 10) (v := undef) rfl (by kernel_rfl) (by kernel_rfl) (by kernel_rfl) (fun _ _ _ h => h) (Or.inr ⟨by kernel_rfl, rfl⟩) ?_
          go_simp
          refine wpAny_take (i := 11) (v := undef) rfl (by kernel_rfl) (by kernel_rfl) (by kernel_rfl) (fun _ _ _ h => h) (Or.inr ⟨by kernel_rfl, rfl⟩) ?_
          go_simp
          refine wpAny_take (i := 12) (v := undef) rfl (by kernel_rfl) (by kernel_rfl) (by kernel_rfl) (fun _ _ _ h => h) (Or.inr ⟨by kernel_rfl, rfl⟩) ?_
          go_simp
          refine wpAny_take (i := 13) (v := undef) rfl (by kernel_rfl) (by kernel_rfl) (by kernel_rfl) (fun _ _ _ h => h) (Or.inr ⟨by kernel_rfl, rfl⟩) ?_
          go_simp
          refine wpAny_take (i := 14) (v := undef) rfl (by kernel_rfl) (by kernel_rfl) (by kernel_rfl) (fun _ _ _ h => h) (Or.inr ⟨by kernel_rfl, rfl⟩) ?_
          go_simp
          refine wpAny_take (i := 15) (v := undef) rfl (by kernel_rfl) (by kernel_rfl) (by kernel_rfl) (fun _ _ _ h => h) (Or.inr ⟨by kernel_rfl, rfl⟩) ?_
          go_simp
          refine wpAny_take (i := 16) (v := ?_) rfl (by kernel_rfl) (by kernel_rfl) (by kernel_rfl) (fun _ _ _ h => h) (Or.inl ⟨by kernel_rfl, by (intro w; go_simp; try with_reducible rfl)⟩) ?_
          go_simp
          refine wpAny_take (i := 17) (v := ?_) rfl (by kernel_rfl) (by kernel_rfl) (by kernel_rfl) (fun _ _ _ h => h) (Or.inl ⟨by kernel_rfl, by (intro w; go_simp; try with_reducible rfl)⟩) ?_
          go_simp
          refine wpAny_done (by kernel_rfl) ?_ _
          go_wp2_with fail
          go_meet
          exact ⟨rfl, hti⟩
        · skip
          go_simp
          (refine hK _ _ ?_; clear hK K)
          refine wpAny_ready (rs := [1]) (by kernel_rfl) (by simp) ?_
          refine AllReady.cons rfl (fun K hK => ?_) AllReady.nil
          go_simp
          go_wp2_with (go_at_call 36; refine (right_is _ _ _ _ _ false HV.out _ hkx).mono ?_; rintro e w9 ⟨rfl, hbn⟩; replace hti := hti.on hbn; clear b0 b1 x0 x1 hka hkx hbk hbn; obtain ⟨b0, b1, x0, x1, hka, hkx, hbk⟩ := id hti)
          refine wpAny_ready (rs := [3]) (by kernel_rfl) (by simp) ?_
          refine AllReady.cons rfl (fun K hK => ?_) AllReady.nil
          go_simp
          go_wp2_with (go_at_call 37; refine (rright_is _ _ _ _ _ false HV.out _ hka).mono ?_; rintro e w9 ⟨rfl, hbn⟩; replace hti := hti.on hbn; clear b0 b1 x0 x1 hka hkx hbk hbn; obtain ⟨b0, b1, x0, x1, hka, hkx, hbk⟩ := id hti)
          refine wpAny_take (i := 4) (v := ?_) rfl (by kernel_rfl) (by kernel_rfl) (by kernel_rfl) (fun _ _ _ h => h) (Or.inl ⟨by kernel_rfl, by (intro w; go_simp; try with_reducible rfl)⟩) ?_
          go_simp
          refine wpAny_take (i := 5) (v := ?_) rfl (by kernel_rfl) (by kernel_rfl) (by kernel_rfl) (fun _ _ _ h => h) (Or.inl ⟨by kernel_rfl, by (intro w; go_simp; try with_reducible rfl)⟩) ?_
          go_simp
          refine wpAny_ready (rs := [6]) (by kernel_rfl) (by simp) ?_
          refine AllReady.cons rfl (fun K hK => ?_) AllReady.nil
          go_simp
          (refine hK _ _ ?_; clear hK K)
          refine wpAny_ready (rs := [7]) (by kernel_rfl) (by simp) ?_
          refine AllReady.cons rfl (fun K hK => ?_) AllReady.nil
          go_simp
          go_wp2_with (go_at_call 37; refine (rright_is _ _ _ _ _ false HV.out _ hka).mono ?_; rintro e w9 ⟨rfl, hbn⟩; replace hti := hti.on hbn; clear b0 b1 x0 x1 hka hkx hbk hbn; obtain ⟨b0, b1, x0, x1, hka, hkx, hbk⟩ := id hti)
          refine wpAny_take (i := 8) (v := ?_) rfl (by kernel_rfl) (by kernel_rfl) (by kernel_rfl) (fun _ _ _ h => h) (Or.inl ⟨by kernel_rfl, by (intro w; go_simp; try with_reducible rfl)⟩) ?_
          go_simp
          refine wpAny_take (i := 9) (v := undef) rfl (by kernel_rfl) (by kernel_rfl) (by kernel_rfl) (fun _ _ _ h => h) (Or.inr ⟨by kernel_rfl, rfl⟩) ?_
          go_simp
          refine wpAny_take (i := 10) (v := undef) rfl (by kernel_rfl) (by kernel_rfl) (by kernel_rfl) (fun _ _ _ h => h) (Or.inr ⟨by kernel_rfl, rfl⟩) ?_
          go_simp
          refine wpAny_take (i := 11) (v := undef) rfl (by kernel_rfl) (by kernel_rfl) (by kernel_rfl) (fun _ _ _ h => h) (Or.inr ⟨by kernel_rfl, rfl⟩) ?_
          go_simp
          refine wpAny_take (i := 12) (v := undef) rfl (by kernel_rfl) (by kernel_rfl) (by kernel_rfl) (fun _ _ _ h => h) (Or.inr ⟨by kernel_rfl, rfl⟩) ?_
          go_simp
          refine wpAny_take (i := 13) (v := undef) rfl (by kernel_rfl) (by kernel_rfl) (by kernel_rfl) (fun _ _ _ h => h) (Or.inr ⟨by kernel_rfl, rfl⟩) ?_
          go_simp
          refine wpAny_take (i := 14) (v := undef) rfl (by kernel_rfl) (by kernel_rfl) (by kernel_rfl) (fun _ _ _ h => h) (Or.inr ⟨by kernel_rfl, rfl⟩) ?_
          go_simp
          refine wpAny_take (i := 15) (v := undef) rfl (by kernel_rfl) (by kernel_rfl) (by kernel_rfl) (fun _ _ _ h => h) (Or.inr ⟨by kernel_rfl, rfl⟩) ?_
          go_simp
          refine wpAny_take (i := 16) (v := ?_) rfl (by kernel_rfl) (by kernel_rfl) (by kernel_rfl) (fun _ _ _ h => h) (Or.inl ⟨by kernel_rfl, by (intro w; go_simp; try with_reducible rfl)⟩) ?_
          go_simp
          refine wpAny_take (i := 17) (v := ?_) rfl (by kernel_rfl) (by kernel_rfl) (by kernel_rfl) (fun _ _ _ h => h) (Or.inl ⟨by kernel_rfl, by (intro w; go_simp; try with_reducible rfl)⟩) ?_
          go_simp
          refine wpAny_done (by kernel_rfl) ?_ _
          go_wp2_with fail
          go_meet
          exact ⟨rfl, hti⟩
      · skip
        go_simp
        (refine hK _ _ ?_; clear hK K)
        refine wpAny_ready (rs := [0]) (by kernel_rfl) (by simp) ?_
        refine AllReady.cons rfl (fun K hK => ?_) AllReady.nil
        go_simp
        (refine hK _ _ ?_; clear hK K)
        refine wpAny_ready (rs := [1]) (by kernel_rfl) (by simp) ?_
        refine AllReady.cons rfl (fun K hK => ?_) AllReady.nil
        go_simp
        go_wp2_with (go_at_call 36; refine (right_is _ _ _ _ _ false HV.out _ hkx).mono ?_; rintro e w9 ⟨rfl, hbn⟩; replace hti := hti.on hbn; clear b0 b1 x0 x1 hka hkx hbk hbn; obtain ⟨b0, b1, x0, x1, hka, hkx, hbk⟩ := id hti)
        refine wpAny_ready (rs := [3]) (by kernel_rfl) (by simp) ?_
        refine AllReady.cons rfl (fun K hK => ?_) AllReady.nil
        go_simp
        go_wp2_with (go_at_call 37; refine (rright_is _ _ _ _ _ false HV.out _ hka).mono ?_; rintro e w9 ⟨rfl, hbn⟩; replace hti := hti.on hbn; clear b0 b1 x0 x1 hka hkx hbk hbn; obtain ⟨b0, b1, x0, x1, hka, hkx, hbk⟩ := id hti)
        refine wpAny_take (i := 4) (v := ?_) rfl (by kernel_rfl) (by kernel_rfl) (by kernel_rfl) (fun _ _ _ h => h) (Or.inl ⟨by kernel_rfl, by (intro w; go_simp; try with_reducible rfl)⟩) ?_
        go_simp
        refine wpAny_take (i := 5) (v := ?_) rfl (by kernel_rfl) (by kernel_rfl) (by kernel_rfl) (fun _ _ _ h => h) (Or.inl ⟨by kernel_rfl, by (intro w; go_simp; try with_reducible rfl)⟩) ?_
        go_simp
        refine wpAny_ready (rs := [6]) (by kernel_rfl) (by simp) ?_
        refine AllReady.cons rfl (fun K hK => ?_) AllReady.nil
        go_simp
        (refine hK _ _ ?_; clear hK K)
        refine wpAny_ready (rs := [7]) (by kernel_rfl) (by simp) ?_
        refine AllReady.cons rfl (fun K hK => ?_) AllReady.nil
        go_simp
        go_wp2_with (go_at_call 37; refine (rright_is _ _ _ _ _ false HV.out _ hka).mono ?_; rintro e w9 ⟨rfl, hbn⟩; replace hti := hti.on hbn; clear b0 b1 x0 x1 hka hkx hbk hbn; obtain ⟨b0, b1, x0, x1, hka, hkx, hbk⟩ := id hti)
        refine wpAny_take (i := 8) (v := ?_) rfl (by kernel_rfl) (by kernel_rfl) (by kernel_rfl) (fun _ _ _ h => h) (Or.inl ⟨by kernel_rfl, by (intro w; go_simp; try with_reducible rfl)⟩) ?_
        go_simp
        refine wpAny_take (i := 9) (v := undef) rfl (by kernel_rfl) (by kernel_rfl) (by kernel_rfl) (fun _ _ _ h => h) (Or.inr ⟨by kernel_rfl, rfl⟩) ?_
        go_simp
        refine wpAny_take (i := 10) (v := undef) rfl (by kernel_rfl) (by kernel_rfl) (by kernel_rfl) (fun _ _ _ h => h) (Or.inr ⟨by kernel_rfl, rfl⟩) ?_
        go_simp
        refine wpAny_take (i := 11) (v := undef) rfl (by kernel_rfl) (by kernel_rfl) (by kernel_rfl) (fun _ _ _ h => h) (Or.inr ⟨by kernel_rfl, rfl⟩) ?_
        go_simp
        refine wpAny_take (i := 12) (v := undef) rfl (by kernel_rfl) (by kernel_rfl) (by kernel_rfl) (fun _ _ _ h => h) (Or.inr ⟨by kernel_rfl, rfl⟩) ?_
        go_simp
        refine wpAny_take (i := 13) (v := undef) rfl (by kernel_rfl) (by kernel_rfl) (by kernel_rfl) (fun _ _ _ h => h) (Or.inr ⟨by kernel_rfl, rfl⟩) ?_
        go_simp
        refine wpAny_take (i := 14) (v := undef) rfl (by kernel_rfl) (by kernel_rfl) (by kernel_rfl) (fun _ _ _ h => h) (Or.inr ⟨by kernel_rfl, rfl⟩) ?_
        go_simp
        refine wpAny_take (i := 15) (v := undef) rfl (by kernel_rfl) (by kernel_rfl) (by kernel_rfl) (fun _ _ _ h => h) (Or.inr ⟨by kernel_rfl, rfl⟩) ?_
        go_simp
        refine wpAny_take (i := 16) (v := ?_) rfl (by kernel_rfl) (by kernel_rfl) (by kernel_rfl) (fun _ _ _ h => h) (Or.inl ⟨by kernel_rfl, by (intro w; go_simp; try with_reducible rfl)⟩) ?_
        go_simp
        refine wpAny_take (i := 17) (v := ?_) rfl (by kernel_rfl) (by kernel_rfl) (by kernel_rfl) (fun _ _ _ h => h) (Or.inl ⟨by kernel_rfl, by (intro w; go_simp; try with_reducible rfl)⟩) ?_
        go_simp
        refine wpAny_done (by kernel_rfl) ?_ _
        go_wp2_with fail
        go_meet
        exact ⟨rfl, hti⟩
    · have HV := Lib.hid hv
      clear hv
      obtain ⟨p, hp⟩ : ∃ p, plc L t n = p := ⟨_, rfl⟩
      have HP := Lib.hid hp
      clear hp
      go_region_held3 (fun w' => w'.cell? ⟨w.heap.size, 0, none⟩ = some (.int .i64 way) ∧ w'.cell? ⟨w.heap.size, 1, none⟩ = some (.slice a n cap) ∧ w'.cell? ⟨xb, 0, none⟩ = some (.int .i64 way) ∧ w'.cell? ⟨xb, 1, none⟩ = some (.slice a' n cap') ∧ TI w xb way a a' n cap cap' L w') (first | (go_split_ands; (try dsimp only); exact ⟨held_on hbn (by assumption), held_on hbn (by assumption), held_on hbn (by assumption), held_on hbn (by assumption), TI.on (by assumption) hbn⟩) | (exact ⟨b0, b1, x0, x1, hti⟩) | (go_split_ands; (try dsimp only); exact ⟨by assumption, by assumption, by assumption, by assumption, by assumption⟩)) (first | (go_at_call 36; refine (right_is _ _ _ _ _ true HV.out _ (by first | exact TI.kx (by assumption) | (go_split_ands; exact TI.kx (by assumption)))).mono ?_; rintro e w9 ⟨rfl, hbn⟩) | (go_at_call 37; refine (rright_is _ _ _ _ _ true HV.out _ (by first | exact TI.ka (by assumption) | (go_split_ands; exact TI.ka (by assumption)))).mono ?_; rintro e w9 ⟨rfl, hbn⟩) | (go_at_call 38; refine (place_is _ _ _ _ _ _ p HP.out _ (by first | exact TI.kx (by assumption) | (go_split_ands; exact TI.kx (by assumption)))).mono ?_; rintro e w9 ⟨rfl, hbn⟩) | (go_at_call 39; refine (rplace_is _ _ _ _ _ _ p HP.out _ (by first | exact TI.ka (by assumption) | (go_split_ands; exact TI.ka (by assumption)))).mono ?_; rintro e w9 ⟨rfl, hbn⟩))
      go_wp2_with fail
      go_meet
      refine ⟨rfl, ?_⟩
      first | assumption | (go_split_ands; assumption)
  case rest =>
    obtain ⟨rfl, hti⟩ := hcut
    clear b0 b1 x0 x1 hka hkx hbk
    replace hti := hti.draw
    obtain ⟨b0, b1, x0, x1, hka, hkx, hbk⟩ := id hti
    obtain ⟨v1, hv1⟩ : ∃ v, valN way n L t 1 = v := ⟨_, rfl⟩
    obtain ⟨v2, hv2⟩ : ∃ v, valN way n L t 2 = v := ⟨_, rfl⟩
    obtain ⟨v3, hv3⟩ : ∃ v, valN way n L t 3 = v := ⟨_, rfl⟩
    have HVV := Lib.hid (And.intro hv1 (And.intro hv2 hv3))
    clear hv1 hv2 hv3
    go_wp2_with fail
    go_region_held3 (fun w' => w'.cell? ⟨w.heap.size, 0, none⟩ = some (.int .i64 way) ∧ w'.cell? ⟨w.heap.size, 1, none⟩ = some (.slice a n cap) ∧ w'.cell? ⟨xb, 0, none⟩ = some (.int .i64 way) ∧ w'.cell? ⟨xb, 1, none⟩ = some (.slice a' n cap') ∧ TI w xb way a a' n cap cap' L w') (first | (go_split_ands; (try dsimp only); exact ⟨held_on hbn (by assumption), held_on hbn (by assumption), held_on hbn (by assumption), held_on hbn (by assumption), TI.on (by assumption) hbn⟩) | (exact ⟨b0, b1, x0, x1, hti⟩) | (go_split_ands; (try dsimp only); exact ⟨by assumption, by assumption, by assumption, by assumption, by assumption⟩)) (first | (go_at_call 34; refine (Tn.awake_any _).mono ?_; rintro e w9 ⟨rfl, hbn⟩) | (go_at_call 41; refine (at_is _ _ _ _ _ _ v1 v2 v3 HVV.out _ (by first | exact TI.kx (by assumption) | (go_split_ands; exact TI.kx (by assumption)))).mono ?_; rintro e w9 ⟨rfl, hbn⟩) | (go_at_call 40; refine (from_any _ _ _ _).mono ?_; rintro e w9 ⟨rfl, hbn⟩) | (go_at_call 42; refine (rat_is _ _ _ _ _ _ v1 v2 v3 HVV.out _ (by first | exact TI.ka (by assumption) | (go_split_ands; exact TI.ka (by assumption)))).mono ?_; rintro e w9 ⟨rfl, hbn⟩))
    go_wp2
    go_ret
    refine ⟨rfl, ?_⟩
    clear hti
    go_split_ands
    exact TI.below (by assumption)
end Go.Proofs.Ytcgafhpbcdmigaa.trackValuesW
