/- The walk of HueLists: the law returns true, whatever list of lights and whatever number come in; nothing that was there is written. -/
import Derived.Test.YtcgafhpbcdmigaaHla
namespace Go.Proofs.Ytcgafhpbcdmigaa.hueListsW
open Go.RowKit Go.Proofs.Ytcgafhpbcdmigaa Go.Proofs.Ytcgafhpbcdmigaa.Wa Go.Proofs.Ytcgafhpbcdmigaa.Ve Go.Proofs.Ytcgafhpbcdmigaa.He Go.Proofs.Ytcgafhpbcdmigaa.Hv Go.Proofs.Ytcgafhpbcdmigaa.Ls

theorem infoHue : (Try.prog.info? 26).map (fun i => (i.zero, i.size, i.bytes)) = some (some (.agg #[.int .i64 0, .int .i64 0, .int .i64 0]), 3, 24) := by kernel_rfl

set_option maxHeartbeats 8000000 in
set_option maxRecDepth 100000 in
theorem walk (a : Option Addr) (len cap : Nat) (L : Nat → Int) (n : Int) (w : World) (hr : IsRow3 w a len L) :
    Calls Try.prog 4 #[.slice a len cap, .int .i64 n] w fun e w' => e = .returned (.bool true) ∧ Below w.heap.size w w' := by
  obtain ⟨i0, hi, hz0, hz1, hz2⟩ := info_parts infoHue
  have HR := Lib.hid hr
  clear hr
  go_enter Try.func4, Try.ntmps4
  go_wp2_with fail
  go_loopw [5, 12] (fun s5 s12 wr => ∃ k : Nat, k ≤ len ∧ s12 = .int .i64 k ∧ Inv w L k s5 wr) (fun _ s12 _ => len - (intOf s12).toNat)
  case atStart =>
    refine ⟨0, by omega, rfl, World.ownsRow_nil _ _ _ _, ?_⟩
    refine ⟨?_, ?_, ?_, fun j => ?_, ?_, below_n1 _ _⟩
    all_goals first | (simp [foldN, go_sem]; done) | (go_simp; done) | (simp; omega) | trace_state
  case round =>
    obtain ⟨k, hk, rfl, hin, hbase⟩ := hrel
    by_cases hlt : k < len
    · rcases HR.out with h0 | ⟨b, off, rfl, hb, hm, hc⟩
      · exact absurd hlt (by omega)
      · have hnx : Below w.heap.size w wr := hbase.2.2.2.2.2
        have C0 : wr.cell? ⟨b, off + k * 3, none⟩ = some (.int .i64 (L (k * 3))) := (hnx.cell (p := ⟨b, off + k * 3, none⟩) hb).trans (hc (k * 3) (by omega))
        have C1 : wr.cell? ⟨b, off + k * 3 + 1, none⟩ = some (.int .i64 (L (k * 3 + 1))) := (hnx.cell (p := ⟨b, off + (k * 3 + 1), none⟩) hb).trans (hc (k * 3 + 1) (by omega))
        have C2 : wr.cell? ⟨b, off + k * 3 + 2, none⟩ = some (.int .i64 (L (k * 3 + 2))) := (hnx.cell (p := ⟨b, off + (k * 3 + 2), none⟩) hb).trans (hc (k * 3 + 2) (by omega))
        have HC := Lib.hid hc
        have HN := Lib.hid hnx
        clear hc hnx
        have HI := Lib.hid hin
        have HB := Lib.hid hbase
        clear hin hbase
        go_wp2_with fail
        obtain ⟨wa, hwa⟩ : ∃ wa, wa = wr.alloc (Obj.cells #[.int .i64 (L (k * 3)), .int .i64 (L (k * 3 + 1)), .int .i64 (L (k * 3 + 2))] 23) := ⟨_, rfl⟩
        rw [← hwa]
        have ba : Below wr.heap.size wr wa := by subst hwa; exact below_n1 _ _
        have hp1 : At wr.heap.size (L (k * 3)) (L (k * 3 + 1)) (L (k * 3 + 2)) wa := by subst hwa; exact ⟨by simp, by go_simp, by go_simp, by go_simp⟩
        have HI1 := Lib.hid (own_below HI.out ba)
        have HB1 := Lib.hid (HB.out.on ba)
        have bz := ba.size
        clear hwa C0 C1 C2
        refine (hto_any _ _ _ _).mono ?_
        rintro e w1 ⟨rfl, hb1⟩
        have HI2 := Lib.hid (own_below HI1.out hb1)
        have HB2 := Lib.hid (HB1.out.on hb1)
        have hp2 := hp1.on hb1
        clear HI1 HB1 hp1 ba
        go_wp2_with (first | (at_builtin; refine wpList_append_own _ rfl _ _ 39 rfl (w.heap.size + 1) 26 i0 (.agg #[.int .i64 0, .int .i64 0, .int .i64 0]) 3 24 Try.underlying39 hi hz0 hz1 hz2 rfl (by decide) _ _ _ rfl (HI2.out.alloc _) ⟨w1.heap.size, 0, none⟩ 1 1 [.int .i64 (L (k * 3)), .int .i64 (L (k * 3 + 1)), .int .i64 (L (k * 3 + 2))] rfl rfl ?c1 ?c2 ?c3 ?c4 ?c5 ?_))
        case c1 =>
          intro j u hj
          match j, hj with
          | 0, hj => simp at hj; subst hj; simp [Addr.add]
          | 1, hj => simp at hj; subst hj; simp [Addr.add]
          | 2, hj => simp at hj; subst hj; simp [Addr.add]
        case c2 => intro u hu; simp at hu; rcases hu with rfl | rfl | rfl <;> rfl
        case c3 => unfold maxLen; omega
        case c4 => omega
        case c5 => have := HB2.out.2.2.2.2.1; simp; omega
        intro v5 w2 hin2 hgrow _
        rw [← flat_step] at hin2
        have HI3 := Lib.hid hin2
        have HB3 := Lib.hid ((HB2.out.on (below_n1 _ _)).grown hgrow (fun k hk => (HI2.out.lt k hk).1))
        have hp3 := (hp2.on (below_n1 _ _)).grown hgrow (fun k hk => (HI.out.lt k hk).2)
        clear HI2 HB2 hp2 hin2 hgrow
        obtain ⟨hp30, hp31, hp32, hp33⟩ := hp3
        obtain ⟨s0, s1, s2, -, -, -⟩ := HB3.out
        go_wp2_with fail
        refine (rhadd_any _ _ _ _ _ _ _).mono ?_
        rintro e w3 ⟨rfl, hb3⟩
        have HI4 := Lib.hid (own_below HI3.out hb3)
        have HB4 := Lib.hid (HB3.out.on hb3)
        clear HI3 HB3 s0 s1 s2
        obtain ⟨s0, s1, s2, sf, -, -⟩ := HB4.out
        have HI5 := own_put HI4.out (h := w.heap.size) (by omega) (.int .i64 (foldN Pl.add 0 (fun j => L (j * 3)) (k + 1))) (.int .i64 (foldN Pl.add 0 (fun j => L (j * 3 + 1)) (k + 1))) (.int .i64 (foldN Pl.add 0 (fun j => L (j * 3 + 2)) (k + 1)))
        have HB5 := HB4.out.put (foldN Pl.add 0 (fun j => L (j * 3)) (k + 1)) (foldN Pl.add 0 (fun j => L (j * 3 + 1)) (k + 1)) (foldN Pl.add 0 (fun j => L (j * 3 + 2)) (k + 1))
        go_wp2_with fail
        go_roundw
        case rel => exact ⟨k + 1, by omega, by go_num, HI5, HB5⟩
        case measure => simp [intOf]; omega
    · have heq := eq_h3
      have hpts := own_pts hin
      obtain ⟨s0, s1, s2, -, -, hbk⟩ := hbase
      have hk51 : k ≤ 4611686018427387904 := by
        rcases HR.out with h0 | ⟨b, off, rfl, hb, hm, hc⟩
        · omega
        · omega
      clear hin HR hi hz0 hz1 hz2 hk
      go_wp2_with fail
      go_region_held3 (fun w' => w'.cell? ⟨w.heap.size, 0, none⟩ = some (.int .i64 (foldN Pl.add 0 (fun j => L (j * 3)) k)) ∧ w'.cell? ⟨w.heap.size, 1, none⟩ = some (.int .i64 (foldN Pl.add 0 (fun j => L (j * 3 + 1)) k)) ∧ w'.cell? ⟨w.heap.size, 2, none⟩ = some (.int .i64 (foldN Pl.add 0 (fun j => L (j * 3 + 2)) k)) ∧ PtsV w' u5 k (fun j => L (j * 3)) (fun j => L (j * 3 + 1)) (fun j => L (j * 3 + 2))) (first | (go_keep; done) | (go_split_ands; (try dsimp only); exact ⟨held_on hbn (by assumption), held_on hbn (by assumption), held_on hbn (by assumption), PtsV.on (by assumption) hbn⟩) | (go_split_ands; (try dsimp only); exact ⟨by assumption, by assumption, by assumption, by assumption⟩)) (first | (go_at_call 10; refine (awake_any _).mono ?_; rintro e w9 ⟨rfl, hbn⟩; (first | (replace hbk := hbk.trans (hbn.mono hbk.size)) | (replace hbk := hbk.drew.trans (hbn.mono hbk.drew.size)))) | (go_at_call 23; refine (hsum_v _ _ _ _ _ hk51 _ (by first | assumption | (go_split_ands; assumption))).mono ?_; rintro e w9 ⟨rfl, hbn⟩; (first | (replace hbk := hbk.trans (hbn.mono hbk.size)) | (replace hbk := hbk.drew.trans (hbn.mono hbk.drew.size)))) | (go_at_call 11; refine (hfrom_any _ _ _ _).mono ?_; rintro e w9 ⟨rfl, hbn⟩; (first | (replace hbk := hbk.trans (hbn.mono hbk.size)) | (replace hbk := hbk.drew.trans (hbn.mono hbk.drew.size)))) | (go_at_call 24; refine (mean_any _ _ _ _ _).mono ?_; rintro e w9 ⟨rfl, hbn⟩; (first | (replace hbk := hbk.trans (hbn.mono hbk.size)) | (replace hbk := hbk.drew.trans (hbn.mono hbk.drew.size)))) | (go_at_call 25; refine (rmean_any _ _ _ _ _).mono ?_; rintro e w9 ⟨rfl, hbn⟩; (first | (replace hbk := hbk.trans (hbn.mono hbk.size)) | (replace hbk := hbk.drew.trans (hbn.mono hbk.drew.size)))))
      go_wp2
      go_ret
      exact ⟨rfl, hbk⟩

end Go.Proofs.Ytcgafhpbcdmigaa.hueListsW
