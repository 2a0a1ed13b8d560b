/- The walk of VecLists: the law returns true, whatever point and whatever list of points come in; nothing that was there is written. -/
import Derived.Test.YtdnmfiekfkmbbaaVla
import Derived.Test.YtdnmfiekfkmbbaaVr
import Derived.Test.YtdnmfiekfkmbbaaVg
namespace Go.Proofs.Ytdnmfiekfkmbbaa.vecListsW
open Go.RowKit Go.Proofs.Ytdnmfiekfkmbbaa Go.Proofs.Ytdnmfiekfkmbbaa.Wa Go.Proofs.Ytdnmfiekfkmbbaa.Ve Go.Proofs.Ytdnmfiekfkmbbaa.Ls

theorem infoVec : (Try.prog.info? 26).map (fun i => (i.zero, i.size, i.bytes)) = some (some (.agg #[.int .i64 0, .int .i64 0, .int .i64 0]), 3, 24) := by kernel_rfl

theorem infoRef : (Try.prog.info? 23).map (fun i => (i.zero, i.size, i.bytes)) = some (some (.agg #[.int .i64 0, .int .i64 0, .int .i64 0]), 3, 24) := by kernel_rfl

set_option maxHeartbeats 8000000 in
set_option maxRecDepth 100000 in
theorem walk (ax ay az : Int) (a : Option Addr) (len cap : Nat) (L : Nat → Int) (w : World) (hr : IsRow3 w a len L) :
    Calls Try.prog 4 #[V3 ax ay az, .slice a len cap] w fun e w' => e = .returned (.bool true) ∧ Below w.heap.size w w' := by
  obtain ⟨i0, hi, hz0, hz1, hz2⟩ := info_parts infoVec
  obtain ⟨j0, hj, hy0, hy1, hy2⟩ := info_parts infoRef
  have HR := Lib.hid hr
  clear hr
  go_enter Try.func4, Try.ntmps4
  go_wp2_with fail
  go_loopw [5, 7, 17] (fun s5 s7 s17 wr => ∃ k : Nat, k ≤ len ∧ k ≤ 50 ∧ s17 = .int .i64 k ∧ Inv w ax ay az L k s5 s7 wr) (fun _ _ s17 _ => len - (intOf s17).toNat)
  case atStart =>
    refine ⟨0, by omega, by omega, rfl, World.ownsRow_nil _ _ _ _, ?_, ?_⟩
    · have hl := World.ownsRow_lit (base := w.heap.size + 2) (e := 23) (size := 3) ((w.alloc (Obj.cells #[.int .i64 ax, .int .i64 ay, .int .i64 az] 23)).alloc (Obj.cells #[.int .i64 0, .int .i64 0, .int .i64 0] 23)) #[.int .i64 ax, .int .i64 ay, .int .i64 az] 1 (by simp) (by unfold maxLen; omega) rfl
      rw [show ((w.alloc (Obj.cells #[.int .i64 ax, .int .i64 ay, .int .i64 az] 23)).alloc (Obj.cells #[.int .i64 0, .int .i64 0, .int .i64 0] 23)).heap.size = w.heap.size + 1 + 1 by simp] at hl
      exact hl
    · refine ⟨?_, ?_, ?_, fun j => ?_, ?_, ?_, ?_, ?_, below_n3 _ _ _ _⟩
      all_goals first | (simp [foldN, go_sem]; done) | (go_simp; done) | (simp; omega) | trace_state
  case round =>
    obtain ⟨k, hk, hk50, rfl, hin, hall, hbase⟩ := hrel
    by_cases hlt : k < len
    · rcases HR.out with h0 | ⟨b, off, rfl, hb, hm, hc⟩
      · exact absurd hlt (by omega)
      · have hnx : Below w.heap.size w wr := hbase.2.2.2.2.2.2.2.2
        have C0 : wr.cell? ⟨b, off + k * 3, none⟩ = some (.int .i64 (L (k * 3))) := (hnx.cell (p := ⟨b, off + k * 3, none⟩) hb).trans (hc (k * 3) (by omega))
        have C1 : wr.cell? ⟨b, off + k * 3 + 1, none⟩ = some (.int .i64 (L (k * 3 + 1))) := (hnx.cell (p := ⟨b, off + (k * 3 + 1), none⟩) hb).trans (hc (k * 3 + 1) (by omega))
        have C2 : wr.cell? ⟨b, off + k * 3 + 2, none⟩ = some (.int .i64 (L (k * 3 + 2))) := (hnx.cell (p := ⟨b, off + (k * 3 + 2), none⟩) hb).trans (hc (k * 3 + 2) (by omega))
        have HC := Lib.hid hc
        have HN := Lib.hid hnx
        clear hc hnx
        by_cases h50 : k < 50
        · have HI := Lib.hid hin
          have HA := Lib.hid hall
          have HB := Lib.hid hbase
          clear hin hall hbase
          go_wp2_with fail
          obtain ⟨wa, hwa⟩ : ∃ wa, wa = wr.alloc (Obj.cells #[.int .i64 (L (k * 3)), .int .i64 (L (k * 3 + 1)), .int .i64 (L (k * 3 + 2))] 23) := ⟨_, rfl⟩
          rw [← hwa]
          have ba : Below wr.heap.size wr wa := by subst hwa; exact below_n1 _ _
          have hp1 : At wr.heap.size (L (k * 3)) (L (k * 3 + 1)) (L (k * 3 + 2)) wa := by subst hwa; exact ⟨by simp, by go_simp, by go_simp, by go_simp⟩
          have HI1 := Lib.hid (own_below HI.out ba)
          have HA1 := Lib.hid (own_below HA.out ba)
          have HB1 := Lib.hid (HB.out.on ba)
          have bz := ba.size
          clear hwa C0 C1 C2
          refine (to_any _ _ _ _).mono ?_
          rintro e w1 ⟨rfl, hb1⟩
          have HI2 := Lib.hid (own_below HI1.out hb1)
          have HA2 := Lib.hid (own_below HA1.out hb1)
          have HB2 := Lib.hid (HB1.out.on hb1)
          have hp2 := hp1.on hb1
          clear HI1 HA1 HB1 hp1 ba
          go_wp2_with (first | (at_builtin; refine wpList_append_own _ rfl _ _ 40 rfl (w.heap.size + 2) 26 i0 (.agg #[.int .i64 0, .int .i64 0, .int .i64 0]) 3 24 Try.underlying40 hi hz0 hz1 hz2 rfl (by decide) _ _ _ rfl (HI2.out.alloc _) ⟨w1.heap.size, 0, none⟩ 1 1 [.int .i64 (L (k * 3)), .int .i64 (L (k * 3 + 1)), .int .i64 (L (k * 3 + 2))] rfl rfl ?c1 ?c2 ?c3 ?c4 ?c5 ?_))
          case c1 =>
            intro j u hj
            match j, hj with
            | 0, hj => simp at hj; subst hj; simp [Addr.add]
            | 1, hj => simp at hj; subst hj; simp [Addr.add]
            | 2, hj => simp at hj; subst hj; simp [Addr.add]
          case c2 => intro u hu; simp at hu; rcases hu with rfl | rfl | rfl <;> rfl
          case c3 => unfold maxLen; omega
          case c4 => omega
          case c5 => have := HB2.out.2.2.2.2.2.2.2.1; simp; omega
          intro v5 w2 hin2 hgrow _
          rw [← flat_step] at hin2
          have HI3 := Lib.hid hin2
          have HA3 := Lib.hid ((HA2.out.alloc _).kept hgrow (own_ne (by decide) HA2.out HI2.out))
          have HB3 := Lib.hid ((HB2.out.on (below_n1 _ _)).grown hgrow (fun k hk => (HI2.out.lt k hk).1))
          have hp3 := (hp2.on (below_n1 _ _)).grown hgrow (fun k hk => (HI.out.lt k hk).2)
          clear HI2 HA2 HB2 hp2 hin2 hgrow
          obtain ⟨hp30, hp31, hp32, hp33⟩ := hp3
          obtain ⟨s0, s1, s2, -, -, -, -, -, -⟩ := HB3.out
          go_wp2_with fail
          refine (radd_any _ _ _ _ _ _ _).mono ?_
          rintro e w3 ⟨rfl, hb3⟩
          have HI4 := Lib.hid (own_below HI3.out hb3)
          have HA4 := Lib.hid (own_below HA3.out hb3)
          have HB4 := Lib.hid (HB3.out.on hb3)
          obtain ⟨hp40, hp41, hp42, hp43⟩ := At.on ⟨hp30, hp31, hp32, hp33⟩ hb3
          clear HI3 HA3 HB3 hp30 hp31 hp32 hp33 s0 s1 s2
          obtain ⟨s0, s1, s2, sf, -, -, -, -, -⟩ := HB4.out
          have nb : wr.heap.size ≠ w.heap.size + 1 := by have := HB.out.2.2.2.2.2.2.2.1; omega
          have nb' := Ne.symm nb
          have hz4 : w.heap.size + 2 ≤ w3.heap.size := HB4.out.2.2.2.2.2.2.2.1
          go_wp2_with (first | (at_builtin; refine wpList_append_own _ rfl _ _ 39 rfl (w.heap.size + 2) 23 j0 (.agg #[.int .i64 0, .int .i64 0, .int .i64 0]) 3 24 Try.underlying39 hj hy0 hy1 hy2 rfl (by decide) _ _ _ rfl ((own_put HA4.out (by omega) _ _ _).alloc _) ⟨w3.heap.size, 0, none⟩ 1 1 [.int .i64 (L (k * 3)), .int .i64 (L (k * 3 + 1)), .int .i64 (L (k * 3 + 2))] rfl rfl ?c1 ?c2 ?c3 ?c4 ?c5 ?_))
          case c1 =>
            intro j u hj
            match j, hj with
            | 0, hj => simp at hj; subst hj; exact new_at _ w3.heap.size (by simp) _ _ 0 _ rfl
            | 1, hj => simp at hj; subst hj; exact new_at _ w3.heap.size (by simp) _ _ 1 _ rfl
            | 2, hj => simp at hj; subst hj; exact new_at _ w3.heap.size (by simp) _ _ 2 _ rfl
          case c2 => intro u hu; simp at hu; rcases hu with rfl | rfl | rfl <;> rfl
          case c3 => unfold maxLen; omega
          case c4 => omega
          case c5 => simp; omega
          intro v7 w4 hall5 hgrow _
          rw [show ([.int .i64 (L (k * 3)), .int .i64 (L (k * 3 + 1)), .int .i64 (L (k * 3 + 2))] : List Value) = [.int .i64 (withA ax ay az L ((k + 1) * 3)), .int .i64 (withA ax ay az L ((k + 1) * 3 + 1)), .int .i64 (withA ax ay az L ((k + 1) * 3 + 2))] by
            rw [show (k + 1) * 3 = k * 3 + 3 by omega, show k * 3 + 3 + 1 = k * 3 + 1 + 3 by omega, show k * 3 + 3 + 2 = k * 3 + 2 + 3 by omega, withA_at, withA_at, withA_at], ← flat_step] at hall5
          have HI5 := ((own_put HI4.out (h := w.heap.size + 1) (by omega) _ _ _).alloc _).kept hgrow (own_ne (by decide) HI4.out HA4.out)
          have HB5 := ((HB4.out.put _ _ _).on (below_n1 _ _)).grown hgrow (fun k hk => (HA4.out.lt k hk).1)
          go_wp2_with fail
          go_roundw
          case rel => exact ⟨k + 1, by omega, by omega, by go_num, HI5, hall5, HB5⟩
          case measure => simp [intOf]; omega
        · have heq := eq_v3
          obtain ⟨g, cg, rfl, hnums⟩ := own_nums hall (by omega)
          have hpts := own_pts hin
          have HI := Lib.hid hpts
          have HA := Lib.hid hnums
          have HB := Lib.hid hbase
          clear hin hall hbase hpts hnums HR hi hz0 hz1 hz2 hj hy0 hy1 hy2
          have hk51 : k ≤ 4611686018427387904 := by omega
          go_wp2_with fail
          refine (ends_with ax ay az L _ _ _ hk50 _ (HA.out.on (below_n1 _ _))).mono ?_
          rintro e w1 ⟨rfl, hb1⟩
          have HI1 := (HI.out.on (below_n1 _ _)).on hb1
          have HB1 := (HB.out.on (below_n1 _ _)).on hb1
          clear HI HA HB HC HN
          go_wp2_with fail
          obtain ⟨wz, hwz⟩ : ∃ wz, wz = (w1.alloc (Obj.cells #[.int .i64 (foldN min ax (fun j => L (j * 3)) k), .int .i64 (foldN min ay (fun j => L (j * 3 + 1)) k), .int .i64 (foldN min az (fun j => L (j * 3 + 2)) k)] 23)).alloc (Obj.cells #[.int .i64 (foldN max ax (fun j => L (j * 3)) k), .int .i64 (foldN max ay (fun j => L (j * 3 + 1)) k), .int .i64 (foldN max az (fun j => L (j * 3 + 2)) k)] 23) := ⟨_, rfl⟩
          rw [← hwz]
          have bz : Below w1.heap.size w1 wz := by subst hwz; exact below_n2 _ _ _
          have HI2 := HI1.on bz
          obtain ⟨s0, s1, s2, -, a0, a1, a2, -, hbk⟩ := HB1.on bz
          have l0 : wz.cell? ⟨w1.heap.size, 0, none⟩ = some (.int .i64 (foldN min ax (fun j => L (j * 3)) k)) := by subst hwz; go_simp
          have l1 : wz.cell? ⟨w1.heap.size, 1, none⟩ = some (.int .i64 (foldN min ay (fun j => L (j * 3 + 1)) k)) := by subst hwz; go_simp
          have l2 : wz.cell? ⟨w1.heap.size, 2, none⟩ = some (.int .i64 (foldN min az (fun j => L (j * 3 + 2)) k)) := by subst hwz; go_simp
          have g0 : wz.cell? ⟨w1.heap.size + 1, 0, none⟩ = some (.int .i64 (foldN max ax (fun j => L (j * 3)) k)) := by subst hwz; go_simp
          have g1 : wz.cell? ⟨w1.heap.size + 1, 1, none⟩ = some (.int .i64 (foldN max ay (fun j => L (j * 3 + 1)) k)) := by subst hwz; go_simp
          have g2 : wz.cell? ⟨w1.heap.size + 1, 2, none⟩ = some (.int .i64 (foldN max az (fun j => L (j * 3 + 2)) k)) := by subst hwz; go_simp
          clear hwz bz HI1 HB1 hb1
          go_region_held3 (fun w' => w'.cell? ⟨w.heap.size, 0, none⟩ = some (.int .i64 ax) ∧ w'.cell? ⟨w.heap.size, 1, none⟩ = some (.int .i64 ay) ∧ w'.cell? ⟨w.heap.size, 2, none⟩ = some (.int .i64 az) ∧ w'.cell? ⟨w.heap.size + 1, 0, none⟩ = some (.int .i64 (foldN Pl.add 0 (fun j => L (j * 3)) k)) ∧ w'.cell? ⟨w.heap.size + 1, 1, none⟩ = some (.int .i64 (foldN Pl.add 0 (fun j => L (j * 3 + 1)) k)) ∧ w'.cell? ⟨w.heap.size + 1, 2, none⟩ = some (.int .i64 (foldN Pl.add 0 (fun j => L (j * 3 + 2)) k)) ∧ w'.cell? ⟨w1.heap.size, 0, none⟩ = some (.int .i64 (foldN min ax (fun j => L (j * 3)) k)) ∧ w'.cell? ⟨w1.heap.size, 1, none⟩ = some (.int .i64 (foldN min ay (fun j => L (j * 3 + 1)) k)) ∧ w'.cell? ⟨w1.heap.size, 2, none⟩ = some (.int .i64 (foldN min az (fun j => L (j * 3 + 2)) k)) ∧ w'.cell? ⟨w1.heap.size + 1, 0, none⟩ = some (.int .i64 (foldN max ax (fun j => L (j * 3)) k)) ∧ w'.cell? ⟨w1.heap.size + 1, 1, none⟩ = some (.int .i64 (foldN max ay (fun j => L (j * 3 + 1)) k)) ∧ w'.cell? ⟨w1.heap.size + 1, 2, none⟩ = some (.int .i64 (foldN max az (fun j => L (j * 3 + 2)) k)) ∧ PtsV w' u5 k (fun j => L (j * 3)) (fun j => L (j * 3 + 1)) (fun j => L (j * 3 + 2))) (first | (go_keep; done) | (go_split_ands; (try dsimp only); exact ⟨held_on hbn (by assumption), held_on hbn (by assumption), held_on hbn (by assumption), held_on hbn (by assumption), held_on hbn (by assumption), held_on hbn (by assumption), held_on hbn (by assumption), held_on hbn (by assumption), held_on hbn (by assumption), held_on hbn (by assumption), held_on hbn (by assumption), held_on hbn (by assumption), PtsV.on (by assumption) hbn⟩) | (go_split_ands; (try dsimp only); exact ⟨by assumption, by assumption, by assumption, by assumption, by assumption, by assumption, by assumption, by assumption, by assumption, by assumption, by assumption, by assumption, by assumption⟩)) (first | (go_at_call 9; refine (awake_any _).mono ?_; rintro e w9 ⟨rfl, hbn⟩; (first | (replace hbk := hbk.trans (hbn.mono hbk.size)) | (replace hbk := hbk.drew.trans (hbn.mono hbk.drew.size)))) | (go_at_call 8; refine (to_any _ _ _ _).mono ?_; rintro e w9 ⟨rfl, hbn⟩; (first | (replace hbk := hbk.trans (hbn.mono hbk.size)) | (replace hbk := hbk.drew.trans (hbn.mono hbk.drew.size)))) | (go_at_call 10; refine (from_any _ _ _ _).mono ?_; rintro e w9 ⟨rfl, hbn⟩; (first | (replace hbk := hbk.trans (hbn.mono hbk.size)) | (replace hbk := hbk.drew.trans (hbn.mono hbk.drew.size)))) | (go_at_call 22; refine (sum3_any _ _ _ _ _ (by omega) _ (by first | assumption | (go_split_ands; assumption) | (trace_state; fail))).mono ?_; rintro e w9 ⟨rfl, hbn⟩; (first | (replace hbk := hbk.trans (hbn.mono hbk.size)) | (replace hbk := hbk.drew.trans (hbn.mono hbk.drew.size)))) | (go_at_call 23; refine (least3_any _ _ _ _ _ _ _ _ (by omega) _ (by first | assumption | (go_split_ands; assumption) | (trace_state; fail))).mono ?_; rintro e w9 ⟨rfl, hbn⟩; (first | (replace hbk := hbk.trans (hbn.mono hbk.size)) | (replace hbk := hbk.drew.trans (hbn.mono hbk.drew.size)))) | (go_at_call 24; refine (greatest3_any _ _ _ _ _ _ _ _ (by omega) _ (by first | assumption | (go_split_ands; assumption) | (trace_state; fail))).mono ?_; rintro e w9 ⟨rfl, hbn⟩; (first | (replace hbk := hbk.trans (hbn.mono hbk.size)) | (replace hbk := hbk.drew.trans (hbn.mono hbk.drew.size)))))
          go_wp2
          go_ret
          exact ⟨rfl, hbk⟩
    · have heq := eq_v3
      obtain ⟨g, cg, rfl, hnums⟩ := own_nums hall (by omega)
      have hpts := own_pts hin
      have HI := Lib.hid hpts
      have HA := Lib.hid hnums
      have HB := Lib.hid hbase
      clear hin hall hbase hpts hnums HR hi hz0 hz1 hz2 hj hy0 hy1 hy2
      have hk51 : k ≤ 4611686018427387904 := by omega
      clear hk
      go_wp2_with fail
      refine (ends_with ax ay az L _ _ _ hk50 _ HA.out).mono ?_
      rintro e w1 ⟨rfl, hb1⟩
      have HI1 := HI.out.on hb1
      have HB1 := HB.out.on hb1
      clear HI HA HB
      go_wp2_with fail
      obtain ⟨wz, hwz⟩ : ∃ wz, wz = (w1.alloc (Obj.cells #[.int .i64 (foldN min ax (fun j => L (j * 3)) k), .int .i64 (foldN min ay (fun j => L (j * 3 + 1)) k), .int .i64 (foldN min az (fun j => L (j * 3 + 2)) k)] 23)).alloc (Obj.cells #[.int .i64 (foldN max ax (fun j => L (j * 3)) k), .int .i64 (foldN max ay (fun j => L (j * 3 + 1)) k), .int .i64 (foldN max az (fun j => L (j * 3 + 2)) k)] 23) := ⟨_, rfl⟩
      rw [← hwz]
      have bz : Below w1.heap.size w1 wz := by subst hwz; exact below_n2 _ _ _
      have HI2 := HI1.on bz
      obtain ⟨s0, s1, s2, -, a0, a1, a2, -, hbk⟩ := HB1.on bz
      have l0 : wz.cell? ⟨w1.heap.size, 0, none⟩ = some (.int .i64 (foldN min ax (fun j => L (j * 3)) k)) := by subst hwz; go_simp
      have l1 : wz.cell? ⟨w1.heap.size, 1, none⟩ = some (.int .i64 (foldN min ay (fun j => L (j * 3 + 1)) k)) := by subst hwz; go_simp
      have l2 : wz.cell? ⟨w1.heap.size, 2, none⟩ = some (.int .i64 (foldN min az (fun j => L (j * 3 + 2)) k)) := by subst hwz; go_simp
      have g0 : wz.cell? ⟨w1.heap.size + 1, 0, none⟩ = some (.int .i64 (foldN max ax (fun j => L (j * 3)) k)) := by subst hwz; go_simp
      have g1 : wz.cell? ⟨w1.heap.size + 1, 1, none⟩ = some (.int .i64 (foldN max ay (fun j => L (j * 3 + 1)) k)) := by subst hwz; go_simp
      have g2 : wz.cell? ⟨w1.heap.size + 1, 2, none⟩ = some (.int .i64 (foldN max az (fun j => L (j * 3 + 2)) k)) := by subst hwz; go_simp
      clear hwz bz HI1 HB1 hb1
      go_region_held3 (fun w' => w'.cell? ⟨w.heap.size, 0, none⟩ = some (.int .i64 ax) ∧ w'.cell? ⟨w.heap.size, 1, none⟩ = some (.int .i64 ay) ∧ w'.cell? ⟨w.heap.size, 2, none⟩ = some (.int .i64 az) ∧ w'.cell? ⟨w.heap.size + 1, 0, none⟩ = some (.int .i64 (foldN Pl.add 0 (fun j => L (j * 3)) k)) ∧ w'.cell? ⟨w.heap.size + 1, 1, none⟩ = some (.int .i64 (foldN Pl.add 0 (fun j => L (j * 3 + 1)) k)) ∧ w'.cell? ⟨w.heap.size + 1, 2, none⟩ = some (.int .i64 (foldN Pl.add 0 (fun j => L (j * 3 + 2)) k)) ∧ w'.cell? ⟨w1.heap.size, 0, none⟩ = some (.int .i64 (foldN min ax (fun j => L (j * 3)) k)) ∧ w'.cell? ⟨w1.heap.size, 1, none⟩ = some (.int .i64 (foldN min ay (fun j => L (j * 3 + 1)) k)) ∧ w'.cell? ⟨w1.heap.size, 2, none⟩ = some (.int .i64 (foldN min az (fun j => L (j * 3 + 2)) k)) ∧ w'.cell? ⟨w1.heap.size + 1, 0, none⟩ = some (.int .i64 (foldN max ax (fun j => L (j * 3)) k)) ∧ w'.cell? ⟨w1.heap.size + 1, 1, none⟩ = some (.int .i64 (foldN max ay (fun j => L (j * 3 + 1)) k)) ∧ w'.cell? ⟨w1.heap.size + 1, 2, none⟩ = some (.int .i64 (foldN max az (fun j => L (j * 3 + 2)) k)) ∧ PtsV w' u5 k (fun j => L (j * 3)) (fun j => L (j * 3 + 1)) (fun j => L (j * 3 + 2))) (first | (go_keep; done) | (go_split_ands; (try dsimp only); exact ⟨held_on hbn (by assumption), held_on hbn (by assumption), held_on hbn (by assumption), held_on hbn (by assumption), held_on hbn (by assumption), held_on hbn (by assumption), held_on hbn (by assumption), held_on hbn (by assumption), held_on hbn (by assumption), held_on hbn (by assumption), held_on hbn (by assumption), held_on hbn (by assumption), PtsV.on (by assumption) hbn⟩) | (go_split_ands; (try dsimp only); exact ⟨by assumption, by assumption, by assumption, by assumption, by assumption, by assumption, by assumption, by assumption, by assumption, by assumption, by assumption, by assumption, by assumption⟩)) (first | (go_at_call 9; refine (awake_any _).mono ?_; rintro e w9 ⟨rfl, hbn⟩; (first | (replace hbk := hbk.trans (hbn.mono hbk.size)) | (replace hbk := hbk.drew.trans (hbn.mono hbk.drew.size)))) | (go_at_call 8; refine (to_any _ _ _ _).mono ?_; rintro e w9 ⟨rfl, hbn⟩; (first | (replace hbk := hbk.trans (hbn.mono hbk.size)) | (replace hbk := hbk.drew.trans (hbn.mono hbk.drew.size)))) | (go_at_call 10; refine (from_any _ _ _ _).mono ?_; rintro e w9 ⟨rfl, hbn⟩; (first | (replace hbk := hbk.trans (hbn.mono hbk.size)) | (replace hbk := hbk.drew.trans (hbn.mono hbk.drew.size)))) | (go_at_call 22; refine (sum3_any _ _ _ _ _ (by omega) _ (by first | assumption | (go_split_ands; assumption) | (trace_state; fail))).mono ?_; rintro e w9 ⟨rfl, hbn⟩; (first | (replace hbk := hbk.trans (hbn.mono hbk.size)) | (replace hbk := hbk.drew.trans (hbn.mono hbk.drew.size)))) | (go_at_call 23; refine (least3_any _ _ _ _ _ _ _ _ (by omega) _ (by first | assumption | (go_split_ands; assumption) | (trace_state; fail))).mono ?_; rintro e w9 ⟨rfl, hbn⟩; (first | (replace hbk := hbk.trans (hbn.mono hbk.size)) | (replace hbk := hbk.drew.trans (hbn.mono hbk.drew.size)))) | (go_at_call 24; refine (greatest3_any _ _ _ _ _ _ _ _ (by omega) _ (by first | assumption | (go_split_ands; assumption) | (trace_state; fail))).mono ?_; rintro e w9 ⟨rfl, hbn⟩; (first | (replace hbk := hbk.trans (hbn.mono hbk.size)) | (replace hbk := hbk.drew.trans (hbn.mono hbk.drew.size)))))
      go_wp2
      go_ret
      exact ⟨rfl, hbk⟩

end Go.Proofs.Ytdnmfiekfkmbbaa.vecListsW
