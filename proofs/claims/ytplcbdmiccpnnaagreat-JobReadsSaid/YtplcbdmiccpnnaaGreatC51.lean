/- Two scenes that hold the same: the document's Same of tracks and of scenes. -/
import Derived.Test.YtplcbdmiccpnnaaGreatC38
import Derived.Test.YtplcbdmiccpnnaaGreatC15
import Derived.Laws.StructEq
import Derived.Deep.MidRow
import Derived.StillTailTactics
import Derived.BigQuiet
import Derived.Deep.DeepCutAuto
import Derived.Deep.RegionHeld3
namespace Go.Proofs.YtplcbdmiccpnnaaGreat.Sc
open Go.RowKit Go.Proofs.YtplcbdmiccpnnaaGreat Go.Proofs.YtplcbdmiccpnnaaGreat.Wa Go.Proofs.YtplcbdmiccpnnaaGreat.Ve Go.Proofs.YtplcbdmiccpnnaaGreat.Tk Go.Proofs.YtplcbdmiccpnnaaGreat.Ls
set_option linter.unusedVariables false

theorem blw_draws {B : Nat} {w wr : World} (h : Below B w wr) (k : Nat) : Below B w (wr.drewN k) := ⟨h.os, h.tape, h.output, h.size, h.block⟩

theorem eq_v3d (d : Nat) (x y z : Int) (W : World) : (Op.equalIn (d + 2) 70 (.agg #[.int .i64 x, .int .i64 y, .int .i64 z]) (.agg #[.int .i64 x, .int .i64 y, .int .i64 z])).run Tryz.prog W = .ok true W := by
  obtain ⟨i0, hi, hz0, hz1, hz2⟩ := info_parts infoInt
  rw [run_equalIn_array W (d + 1) _ _ Tryz.underlying70 hi, cellsInt]
  simp only [show List.range 3 = [0, 1, 2] from rfl, Op.eqItems, Sem.run_bind]
  simp [go_sem]

theorem eq_h3d (d : Nat) (x y z : Int) (W : World) : (Op.equalIn (d + 2) 41 (.agg #[.int .i64 x, .int .i64 y, .int .i64 z]) (.agg #[.int .i64 x, .int .i64 y, .int .i64 z])).run Tryz.prog W = .ok true W := by
  obtain ⟨i0, hi, hz0, hz1, hz2⟩ := info_parts infoInt
  rw [run_equalIn_array W (d + 1) _ _ Tryz.underlying41 hi, cellsInt]
  simp only [show List.range 3 = [0, 1, 2] from rfl, Op.eqItems, Sem.run_bind]
  simp [go_sem]

theorem eq_key (x0 x1 x2 x3 : Int) (W : World) : (Op.equalIn 10000 79 (.agg #[.int .i64 x0, .int .i64 x1, .int .i64 x2, .int .i64 x3]) (.agg #[.int .i64 x0, .int .i64 x1, .int .i64 x2, .int .i64 x3])).run Tryz.prog W = .ok true W := by
  have hv := eq_v3d 9997 x1 x2 x3
  rw [run_equalIn_struct W 9999 79 _ _ (by kernel_rfl) (by kernel_rfl)]
  simp only [Program.fieldsOf, Tryz.underlying79, Op.eqFields]
  simp [go_sem, hv]

set_option maxHeartbeats 2000000 in
theorem tsame_any (way : Int) (a a' : Option Addr) (n c c' : Nat) (L : Nat → Int) (w : World) (h1 : KeysAt w a n L) (h2 : KeysAt w a' n L) :
    Calls Tryz.prog 20 #[.agg #[.int .i64 way, .slice a n c], .agg #[.int .i64 way, .slice a' n c']] w fun e w' => e = .returned (.bool true) ∧ Below w.heap.size w w' := by
  have hn := h1.1
  have H1 := Lib.hid h1
  have H2 := Lib.hid h2
  clear h1 h2
  go_enter Tryz.func20, Tryz.ntmps20
  go_wp2_with fail
  go_loopw [5] (fun s wr => ∃ k : Nat, k ≤ n ∧ s = .int .i64 k ∧ wr.cell? ⟨w.heap.size, 1, none⟩ = some (.slice a n c) ∧ wr.cell? ⟨w.heap.size + 1, 1, none⟩ = some (.slice a' n c') ∧ Below w.heap.size w wr) (fun s _ => n - (intOf s).toNat)
  case atStart => exact ⟨0, by omega, rfl, by go_simp, by go_simp, below_n2 _ _ _⟩
  case round =>
    obtain ⟨k, hk, rfl, hb1, hb2, hbk⟩ := hrel
    have hs1 := World.block_lt_of_cell? _ _ hb1
    have hs2 := World.block_lt_of_cell? _ _ hb2
    simp only at hs1 hs2
    by_cases hlt : k < n
    · have hlt' : (k : Int) < n := by omega
      obtain ⟨-, h' | ⟨b, off, rfl, hb, hc⟩⟩ := H1.out.on hbk
      · omega
      obtain ⟨-, h' | ⟨b', off', rfl, hb', hc'⟩⟩ := H2.out.on hbk
      · omega
      obtain ⟨x0, x1, x2, x3⟩ := four_of hc hlt
      obtain ⟨y0, y1, y2, y3⟩ := four_of hc' hlt
      have he : ∀ W, (Op.equalIn 10000 79 (.agg #[.int .i64 (L (k * 4)), .int .i64 (L (k * 4 + 1)), .int .i64 (L (k * 4 + 2)), .int .i64 (L (k * 4 + 3))]) (.agg #[.int .i64 (L (k * 4)), .int .i64 (L (k * 4 + 1)), .int .i64 (L (k * 4 + 2)), .int .i64 (L (k * 4 + 3))])).run Tryz.prog W = .ok true W := eq_key _ _ _ _
      clear hc hc'
      go_wp2_with fail
      go_quiet (fail)
      go_wp2
      go_roundw
      case rel => exact ⟨k + 1, by omega, by go_num, hb1, hb2, blw_draws hbk _⟩
      case measure => simp [intOf]; omega
    · obtain rfl : k = n := by omega
      go_wp2
      exact bodyPost_ret (v := .bool true) (by simp [results, Tryz.results20, go_sem]) rfl ⟨rfl, hbk⟩


theorem infoVec3 : (Tryz.prog.info? 70).map (fun i => (i.zero, i.size, i.bytes)) = some (some (.agg #[.int .i64 0, .int .i64 0, .int .i64 0]), 3, 24) := by kernel_rfl

theorem eq_paint (a b c d e : Int) (W : World) : (Op.equalIn 10000 74 (.agg #[.int .i64 a, .int .i64 b, .int .i64 c, .int .i64 d, .int .i64 e]) (.agg #[.int .i64 a, .int .i64 b, .int .i64 c, .int .i64 d, .int .i64 e])).run Tryz.prog W = .ok true W := by
  have hv := eq_h3d 9997 b c d
  rw [run_equalIn_struct W 9999 74 _ _ (by kernel_rfl) (by kernel_rfl)]
  simp only [Program.fieldsOf, Tryz.underlying74, Op.eqFields]
  simp [go_sem, hv]

theorem eq_joint (a b c d : Int) (W : World) : (Op.equalIn 10000 81 (.agg #[.int .i64 a, .int .i64 b, .int .i64 c, .int .i64 d]) (.agg #[.int .i64 a, .int .i64 b, .int .i64 c, .int .i64 d])).run Tryz.prog W = .ok true W := by
  have hv : True := trivial
  rw [run_equalIn_struct W 9999 81 _ _ (by kernel_rfl) (by kernel_rfl)]
  simp only [Program.fieldsOf, Tryz.underlying81, Op.eqFields]
  simp [go_sem]

theorem eq_head (a b c d e f g h i j : Int) (W : World) : (Op.equalIn 10000 43 (.agg #[.int .i64 a, .int .i64 b, .int .i64 c, .int .i64 d, .int .i64 e, .int .i64 f, .int .u64 g, .int .i64 h, .int .i64 i, .int .i64 j]) (.agg #[.int .i64 a, .int .i64 b, .int .i64 c, .int .i64 d, .int .i64 e, .int .i64 f, .int .u64 g, .int .i64 h, .int .i64 i, .int .i64 j])).run Tryz.prog W = .ok true W := by
  have hv := eq_h3d 9997 h i j
  rw [run_equalIn_struct W 9999 43 _ _ (by kernel_rfl) (by kernel_rfl)]
  simp only [Program.fieldsOf, Tryz.underlying43, Op.eqFields]
  simp [go_sem, hv]

theorem eq_p3d (d : Nat) (x0 x1 x2 x3 x4 x5 x6 x7 x8 : Int) (W : World) : (Op.equalIn (d + 3) 83 (.agg #[.int .i64 x0, .int .i64 x1, .int .i64 x2, .int .i64 x3, .int .i64 x4, .int .i64 x5, .int .i64 x6, .int .i64 x7, .int .i64 x8]) (.agg #[.int .i64 x0, .int .i64 x1, .int .i64 x2, .int .i64 x3, .int .i64 x4, .int .i64 x5, .int .i64 x6, .int .i64 x7, .int .i64 x8])).run Tryz.prog W = .ok true W := by
  obtain ⟨i0, hi, hz0, hz1, hz2⟩ := info_parts infoVec3
  rw [run_equalIn_array W (d + 2) _ _ Tryz.underlying83 hi, show Tryz.prog.cellsOf 70 = 3 by kernel_rfl]
  simp only [show List.range 3 = [0, 1, 2] from rfl, Op.eqItems, Sem.run_bind]
  simp [go_sem, eq_v3d d]

theorem eq_shape (a b c x0 x1 x2 x3 x4 x5 x6 x7 x8 e : Int) (W : World) : (Op.equalIn 10000 85 (.agg #[.int .i64 a, .int .i64 b, .int .i64 c, .int .i64 x0, .int .i64 x1, .int .i64 x2, .int .i64 x3, .int .i64 x4, .int .i64 x5, .int .i64 x6, .int .i64 x7, .int .i64 x8, .int .i64 e]) (.agg #[.int .i64 a, .int .i64 b, .int .i64 c, .int .i64 x0, .int .i64 x1, .int .i64 x2, .int .i64 x3, .int .i64 x4, .int .i64 x5, .int .i64 x6, .int .i64 x7, .int .i64 x8, .int .i64 e])).run Tryz.prog W = .ok true W := by
  have hv := eq_p3d 9996 x0 x1 x2 x3 x4 x5 x6 x7 x8
  rw [run_equalIn_struct W 9999 85 _ _ (by kernel_rfl) (by kernel_rfl)]
  simp only [Program.fieldsOf, Tryz.underlying85, Op.eqFields]
  simp [go_sem, hv]

set_option maxHeartbeats 8000000 in
set_option maxRecDepth 100000 in
theorem rsame_any (s : Scn) (a a' : Pla) (w : World) (h1 : ScAt w s a) (h2 : ScAt w s a') :
    Calls Tryz.prog 7 #[SV s a, SV s a'] w fun e w' => e = .returned (.bool true) ∧ Below w.heap.size w w' := by
  obtain ⟨pa, pc, ta, tc, ja, jc, sa, sc⟩ := a
  obtain ⟨pa', pc', ta', tc', ja', jc', sa', sc'⟩ := a'
  have HSA := Lib.hid h1
  have HSB := Lib.hid h2
  have hnp : s.np * (5 * 8) ≤ 140737488351232 := h1.p.1
  have hnt : s.nt * 32 ≤ 140737488351232 := h1.t.1
  have hnj : s.nj * (4 * 8) ≤ 140737488351232 := h1.j.1
  have hns : s.ns * (13 * 8) ≤ 140737488351232 := h1.sh.1
  clear h1 h2
  have B10 := (SBox.new w s ⟨pa, pc, ta, tc, ja, jc, sa, sc⟩ 49).on (below_n1 _ (.cells (SC s ⟨pa', pc', ta', tc', ja', jc', sa', sc'⟩) 49))
  have B20 := SBox.new (w.alloc (.cells (SC s ⟨pa, pc, ta, tc, ja, jc, sa, sc⟩) 49)) s ⟨pa', pc', ta', tc', ja', jc', sa', sc'⟩ 49
  have BW0 := below_n2 w (.cells (SC s ⟨pa, pc, ta, tc, ja, jc, sa, sc⟩) 49) (.cells (SC s ⟨pa', pc', ta', tc', ja', jc', sa', sc'⟩) 49)
  have he : ∀ W, (Op.equalIn 10000 43 (.agg #[.int .i64 s.w, .int .i64 s.h, .int .i64 s.sm, .int .i64 s.dp, .int .i64 s.fr, .int .i64 s.sh, .int .u64 s.sd, .int .i64 s.r, .int .i64 s.g, .int .i64 s.b]) (.agg #[.int .i64 s.w, .int .i64 s.h, .int .i64 s.sm, .int .i64 s.dp, .int .i64 s.fr, .int .i64 s.sh, .int .u64 s.sd, .int .i64 s.r, .int .i64 s.g, .int .i64 s.b])).run Tryz.prog W = .ok true W := eq_head _ _ _ _ _ _ _ _ _ _
  go_enter Tryz.func7, Tryz.ntmps7
  go_upto_region 1 with fail
  obtain ⟨W1, hW1⟩ : ∃ W1, (w.alloc (.cells (SC s ⟨pa, pc, ta, tc, ja, jc, sa, sc⟩) 49)).alloc (.cells (SC s ⟨pa', pc', ta', tc', ja', jc', sa', sc'⟩) 49) = W1 := ⟨_, rfl⟩
  have hz1 : W1.heap.size = w.heap.size + 1 + 1 := by rw [← hW1]; simp
  rw [World.size_alloc] at B20
  rw [hW1] at B10 B20 BW0 ⊢
  have HBA := Lib.hid B10
  have HBB := Lib.hid B20
  have BW := Lib.hid BW0
  obtain ⟨-, p0, p1, p2, p3, p4, p5, p6, p7, p8, p9, p10, p11, p12, p13, p14, p15, p16⟩ := B10
  obtain ⟨-, q0, q1, q2, q3, q4, q5, q6, q7, q8, q9, q10, q11, q12, q13, q14, q15, q16⟩ := B20
  clear BW0 hW1
  have HW := Lib.hid (Below.refl W1.heap.size W1)
  go_wp2_with fail
  clear he p0 p1 p2 p3 p4 p5 p6 p7 p8 p9 p10 p11 p12 p13 p14 p15 p16 q0 q1 q2 q3 q4 q5 q6 q7 q8 q9 q10 q11 q12 q13 q14 q15 q16
  go_loopw [5] (fun ix wr => ∃ k : Nat, k ≤ s.np ∧ ix = .int .i64 k ∧ Hid (Below W1.heap.size W1 wr)) (fun ix _ => s.np - (intOf ix).toNat)
  case atStart => exact ⟨0, Nat.zero_le _, rfl, HW⟩
  case round =>
    clear HW
    obtain ⟨k, hk, rfl, HW⟩ := hrel
    have hww := BW.out.trans (HW.out.mono (by omega))
    have d1 := (HBA.out.on HW.out).c13
    have d2 := (HBB.out.on HW.out).c13
    simp only at d1 d2
    by_cases hlt : k < s.np
    · have hlt' : (k : Int) < s.np := by omega
      obtain ⟨b, off, hba, hb, f0, f1, f2, f3, f4⟩ := nums5 (HSA.out.on hww).p hlt
      obtain ⟨b', off', hba', hb', g0, g1, g2, g3, g4⟩ := nums5 (HSB.out.on hww).p hlt
      have ea : pa = some ⟨b, off, none⟩ := hba
      have eb : pa' = some ⟨b', off', none⟩ := hba'
      have he : ∀ W, (Op.equalIn 10000 74 (.agg #[.int .i64 (s.P (k * 5)), .int .i64 (s.P (k * 5 + 1)), .int .i64 (s.P (k * 5 + 2)), .int .i64 (s.P (k * 5 + 3)), .int .i64 (s.P (k * 5 + 4))]) (.agg #[.int .i64 (s.P (k * 5)), .int .i64 (s.P (k * 5 + 1)), .int .i64 (s.P (k * 5 + 2)), .int .i64 (s.P (k * 5 + 3)), .int .i64 (s.P (k * 5 + 4))])).run Tryz.prog W = .ok true W := eq_paint _ _ _ _ _
      rw [ea] at d1
      rw [eb] at d2
      clear ea eb hba hba'
      go_wp2_with fail
      go_quiet (fail)
      go_wp2
      go_roundw
      case rel => exact ⟨k + 1, by omega, by go_num, Lib.hid (blw_draws HW.out _)⟩
      case measure => simp [intOf]; omega
    · obtain rfl : k = s.np := by omega
      clear hlt
      go_wp2_with fail
      go_loopw [6] (fun ix wr => ∃ k : Nat, k ≤ s.nt ∧ ix = .int .i64 k ∧ Hid (Below W1.heap.size W1 wr)) (fun ix _ => s.nt - (intOf ix).toNat)
      case atStart => exact ⟨0, Nat.zero_le _, rfl, HW⟩
      case round =>
        clear HW
        obtain ⟨k, hk, rfl, HW⟩ := hrel
        have hww := BW.out.trans (HW.out.mono (by omega))
        have d1 := (HBA.out.on HW.out).c14
        have d2 := (HBB.out.on HW.out).c14
        simp only at d1 d2
        by_cases hlt : k < s.nt
        · have hlt' : (k : Int) < s.nt := by omega
          obtain ⟨-, h9 | ⟨b, off, hba, hb, hcs⟩⟩ := (HSA.out.on hww).t
          · omega
          obtain ⟨-, h9 | ⟨b', off', hba', hb', hcs'⟩⟩ := (HSB.out.on hww).t
          · omega
          obtain ⟨ka, kc, f0, f1, hka⟩ := hcs k hlt
          obtain ⟨kb, kd, g0, g1, hkb⟩ := hcs' k hlt
          rw [show off + (k * 2 + 1) = off + k * 2 + 1 by omega] at f1
          rw [show off' + (k * 2 + 1) = off' + k * 2 + 1 by omega] at g1
          have ea : ta = some ⟨b, off, none⟩ := hba
          have eb : ta' = some ⟨b', off', none⟩ := hba'
          rw [ea] at d1
          rw [eb] at d2
          have hz1 := World.block_lt_of_cell? _ _ d1
          have hz2 := World.block_lt_of_cell? _ _ d2
          have hz3 := World.block_lt_of_cell? _ _ f0
          have hz4 := World.block_lt_of_cell? _ _ g0
          simp only at hz1 hz2 hz3 hz4
          have fa : ∀ y, Below wr.heap.size wr y → y.cell? ⟨w.heap.size, 14, none⟩ = _ := fun y h => (h.cell (p := ⟨w.heap.size, 14, none⟩) hz1).trans d1
          have fb : ∀ y, Below wr.heap.size wr y → y.cell? ⟨w.heap.size + 1, 14, none⟩ = _ := fun y h => (h.cell (p := ⟨w.heap.size + 1, 14, none⟩) hz2).trans d2
          have f0' : ∀ y, Below wr.heap.size wr y → y.cell? ⟨b, off + k * 2, none⟩ = _ := fun y h => (h.cell (p := ⟨b, off + k * 2, none⟩) hz3).trans f0
          have f1' : ∀ y, Below wr.heap.size wr y → y.cell? ⟨b, off + k * 2 + 1, none⟩ = _ := fun y h => (h.cell (p := ⟨b, off + k * 2 + 1, none⟩) hz3).trans f1
          have g0' : ∀ y, Below wr.heap.size wr y → y.cell? ⟨b', off' + k * 2, none⟩ = _ := fun y h => (h.cell (p := ⟨b', off' + k * 2, none⟩) hz4).trans g0
          have g1' : ∀ y, Below wr.heap.size wr y → y.cell? ⟨b', off' + k * 2 + 1, none⟩ = _ := fun y h => (h.cell (p := ⟨b', off' + k * 2 + 1, none⟩) hz4).trans g1
          clear ea eb hba hba' hcs hcs'
          go_wp2_with fail
          refine wp_region_held_drew (S := fun y => Below wr.heap.size wr y) (by kernel_rfl) ((Below.refl wr.heap.size wr).drew) (fun hS0 => ?_)
          obtain ⟨y0, hy0⟩ : ∃ y0, wr.drew = y0 := ⟨_, rfl⟩
          rw [hy0] at hS0 ⊢
          clear hy0
          refine wpAnyH_take (i := 0) (v := ?_) rfl (by kernel_rfl) (by kernel_rfl) (by kernel_rfl) (fun _ _ _ h => h) (Or.inl ⟨by kernel_rfl, by (intro wz hSz; go_simp; try with_reducible rfl)⟩) hS0 ?_
          go_simp
          refine wpAnyH_take (i := 1) (v := ?_) rfl (by kernel_rfl) (by kernel_rfl) (by kernel_rfl) (fun _ _ _ h => h) (Or.inl ⟨by kernel_rfl, by (intro wz hSz; have q1 := fa _ hSz; have q2 := fb _ hSz; have q3 := f0' _ hSz; have q4 := f1' _ hSz; have q5 := g0' _ hSz; have q6 := g1' _ hSz; go_simp; try with_reducible rfl)⟩) hS0 ?_
          go_simp
          refine wpAnyH_take (i := 2) (v := ?_) rfl (by kernel_rfl) (by kernel_rfl) (by kernel_rfl) (fun _ _ _ h => h) (Or.inl ⟨by kernel_rfl, by (intro wz hSz; go_simp; try with_reducible rfl)⟩) hS0 ?_
          go_simp
          refine wpAnyH_take (i := 3) (v := ?_) rfl (by kernel_rfl) (by kernel_rfl) (by kernel_rfl) (fun _ _ _ h => h) (Or.inl ⟨by kernel_rfl, by (intro wz hSz; go_simp; try with_reducible rfl)⟩) hS0 ?_
          go_simp
          refine wpAnyH_take (i := 4) (v := ?_) rfl (by kernel_rfl) (by kernel_rfl) (by kernel_rfl) (fun _ _ _ h => h) (Or.inl ⟨by kernel_rfl, by (intro wz hSz; have q1 := fa _ hSz; have q2 := fb _ hSz; have q3 := f0' _ hSz; have q4 := f1' _ hSz; have q5 := g0' _ hSz; have q6 := g1' _ hSz; go_simp; try with_reducible rfl)⟩) hS0 ?_
          go_simp
          refine wpAnyH_take (i := 5) (v := ?_) rfl (by kernel_rfl) (by kernel_rfl) (by kernel_rfl) (fun _ _ _ h => h) (Or.inl ⟨by kernel_rfl, by (intro wz hSz; go_simp; try with_reducible rfl)⟩) hS0 ?_
          go_simp
          refine wpAnyH_take (i := 6) (v := ?_) rfl (by kernel_rfl) (by kernel_rfl) (by kernel_rfl) (fun _ _ _ h => h) (Or.inl ⟨by kernel_rfl, by (intro wz hSz; have q1 := fa _ hSz; have q2 := fb _ hSz; have q3 := f0' _ hSz; have q4 := f1' _ hSz; have q5 := g0' _ hSz; have q6 := g1' _ hSz; go_simp; try with_reducible rfl)⟩) hS0 ?_
          go_simp
          refine wpAnyH_take (i := 7) (v := ?_) rfl (by kernel_rfl) (by kernel_rfl) (by kernel_rfl) (fun _ _ _ h => h) (Or.inl ⟨by kernel_rfl, by (intro wz hSz; go_simp; try with_reducible rfl)⟩) hS0 ?_
          go_simp
          refine wpAnyH_take (i := 8) (v := ?_) rfl (by kernel_rfl) (by kernel_rfl) (by kernel_rfl) (fun _ _ _ h => h) (Or.inl ⟨by kernel_rfl, by (intro wz hSz; go_simp; try with_reducible rfl)⟩) hS0 ?_
          go_simp
          refine wpAnyH_take (i := 9) (v := ?_) rfl (by kernel_rfl) (by kernel_rfl) (by kernel_rfl) (fun _ _ _ h => h) (Or.inl ⟨by kernel_rfl, by (intro wz hSz; have q1 := fa _ hSz; have q2 := fb _ hSz; have q3 := f0' _ hSz; have q4 := f1' _ hSz; have q5 := g0' _ hSz; have q6 := g1' _ hSz; go_simp; try with_reducible rfl)⟩) hS0 ?_
          go_simp
          refine wpAnyH_ready (rs := [10]) (by kernel_rfl) (by simp) ?_
          refine AllReadyH.cons rfl (fun K hK => ?_) AllReadyH.nil
          go_simp
          go_wp2_with (go_at_call 20; refine (tsame_any _ _ _ _ _ _ _ _ (hka.on hS0) (hkb.on hS0)).mono ?_; rintro e y1 ⟨rfl, hb1⟩)
          refine hK.out _ _ (hS0.trans (hb1.mono hS0.size)) (fun hS1 => ?_)
          clear hK K
          refine wpAnyH_take (i := 11) (v := ?_) rfl (by kernel_rfl) (by kernel_rfl) (by kernel_rfl) (fun _ _ _ h => h) (Or.inl ⟨by kernel_rfl, by (intro wz hSz; go_simp; try with_reducible rfl)⟩) hS1 ?_
          go_simp
          refine wpAnyH_done (by kernel_rfl) ?_ _
          go_wp2
          go_roundw
          case rel => exact ⟨k + 1, by omega, by go_num, Lib.hid (HW.out.trans (hS1.mono HW.out.size))⟩
          case measure => simp [intOf]; omega
        · obtain rfl : k = s.nt := by omega
          clear hlt
          go_wp2_with fail
          go_loopw [7] (fun ix wr => ∃ k : Nat, k ≤ s.nj ∧ ix = .int .i64 k ∧ Hid (Below W1.heap.size W1 wr)) (fun ix _ => s.nj - (intOf ix).toNat)
          case atStart => exact ⟨0, Nat.zero_le _, rfl, HW⟩
          case round =>
            clear HW
            obtain ⟨k, hk, rfl, HW⟩ := hrel
            have hww := BW.out.trans (HW.out.mono (by omega))
            have d1 := (HBA.out.on HW.out).c15
            have d2 := (HBB.out.on HW.out).c15
            simp only at d1 d2
            by_cases hlt : k < s.nj
            · have hlt' : (k : Int) < s.nj := by omega
              obtain ⟨b, off, hba, hb, f0, f1, f2, f3⟩ := nums4 (HSA.out.on hww).j hlt
              obtain ⟨b', off', hba', hb', g0, g1, g2, g3⟩ := nums4 (HSB.out.on hww).j hlt
              have ea : ja = some ⟨b, off, none⟩ := hba
              have eb : ja' = some ⟨b', off', none⟩ := hba'
              have he : ∀ W, (Op.equalIn 10000 81 (.agg #[.int .i64 (s.J (k * 4)), .int .i64 (s.J (k * 4 + 1)), .int .i64 (s.J (k * 4 + 2)), .int .i64 (s.J (k * 4 + 3))]) (.agg #[.int .i64 (s.J (k * 4)), .int .i64 (s.J (k * 4 + 1)), .int .i64 (s.J (k * 4 + 2)), .int .i64 (s.J (k * 4 + 3))])).run Tryz.prog W = .ok true W := eq_joint _ _ _ _
              rw [ea] at d1
              rw [eb] at d2
              clear ea eb hba hba'
              go_wp2_with fail
              go_quiet (fail)
              go_wp2
              go_roundw
              case rel => exact ⟨k + 1, by omega, by go_num, Lib.hid (blw_draws HW.out _)⟩
              case measure => simp [intOf]; omega
            · obtain rfl : k = s.nj := by omega
              clear hlt
              go_wp2_with fail
              go_loopw [8] (fun ix wr => ∃ k : Nat, k ≤ s.ns ∧ ix = .int .i64 k ∧ Hid (Below W1.heap.size W1 wr)) (fun ix _ => s.ns - (intOf ix).toNat)
              case atStart => exact ⟨0, Nat.zero_le _, rfl, HW⟩
              case round =>
                clear HW
                obtain ⟨k, hk, rfl, HW⟩ := hrel
                have hww := BW.out.trans (HW.out.mono (by omega))
                have d1 := (HBA.out.on HW.out).c16
                have d2 := (HBB.out.on HW.out).c16
                simp only at d1 d2
                by_cases hlt : k < s.ns
                · have hlt' : (k : Int) < s.ns := by omega
                  obtain ⟨b, off, hba, hb, f0, f1, f2, f3, f4, f5, f6, f7, f8, f9, f10, f11, f12⟩ := nums13 (HSA.out.on hww).sh hlt
                  obtain ⟨b', off', hba', hb', g0, g1, g2, g3, g4, g5, g6, g7, g8, g9, g10, g11, g12⟩ := nums13 (HSB.out.on hww).sh hlt
                  have ea : sa = some ⟨b, off, none⟩ := hba
                  have eb : sa' = some ⟨b', off', none⟩ := hba'
                  have he : ∀ W, (Op.equalIn 10000 85 (.agg #[.int .i64 (s.S (k * 13)), .int .i64 (s.S (k * 13 + 1)), .int .i64 (s.S (k * 13 + 2)), .int .i64 (s.S (k * 13 + 3)), .int .i64 (s.S (k * 13 + 4)), .int .i64 (s.S (k * 13 + 5)), .int .i64 (s.S (k * 13 + 6)), .int .i64 (s.S (k * 13 + 7)), .int .i64 (s.S (k * 13 + 8)), .int .i64 (s.S (k * 13 + 9)), .int .i64 (s.S (k * 13 + 10)), .int .i64 (s.S (k * 13 + 11)), .int .i64 (s.S (k * 13 + 12))]) (.agg #[.int .i64 (s.S (k * 13)), .int .i64 (s.S (k * 13 + 1)), .int .i64 (s.S (k * 13 + 2)), .int .i64 (s.S (k * 13 + 3)), .int .i64 (s.S (k * 13 + 4)), .int .i64 (s.S (k * 13 + 5)), .int .i64 (s.S (k * 13 + 6)), .int .i64 (s.S (k * 13 + 7)), .int .i64 (s.S (k * 13 + 8)), .int .i64 (s.S (k * 13 + 9)), .int .i64 (s.S (k * 13 + 10)), .int .i64 (s.S (k * 13 + 11)), .int .i64 (s.S (k * 13 + 12))])).run Tryz.prog W = .ok true W := eq_shape _ _ _ _ _ _ _ _ _ _ _ _ _
                  rw [ea] at d1
                  rw [eb] at d2
                  clear ea eb hba hba'
                  go_wp2_with fail
                  go_quiet (fail)
                  go_wp2
                  go_roundw
                  case rel => exact ⟨k + 1, by omega, by go_num, Lib.hid (blw_draws HW.out _)⟩
                  case measure => simp [intOf]; omega
                · obtain rfl : k = s.ns := by omega
                  clear hlt
                  go_wp2
                  exact bodyPost_ret (v := .bool true) (by simp [results, Tryz.results7, go_sem]) rfl ⟨rfl, BW.out.trans (HW.out.mono (by omega))⟩

end Go.Proofs.YtplcbdmiccpnnaaGreat.Sc
