/- Scenes from one side to the other: the contract of From. -/
import Derived.Test.YtplcbdmiccpnnaaGreatC38
import Derived.Test.YtplcbdmiccpnnaaGreatC49
import Derived.Test.YtplcbdmiccpnnaaGreatC03
import Derived.Deep.MidRow
import Derived.Laws.CopyOwn
import Derived.Deep.DeepCutAuto
import Derived.Deep.RegionHeld3
import Derived.StillTailTactics
namespace Go.Proofs.YtplcbdmiccpnnaaGreat.Sc
open Go.RowKit Go.Proofs.YtplcbdmiccpnnaaGreat Go.Proofs.YtplcbdmiccpnnaaGreat.Wa Go.Proofs.YtplcbdmiccpnnaaGreat.Ve Go.Proofs.YtplcbdmiccpnnaaGreat.Tk Go.Proofs.YtplcbdmiccpnnaaGreat.Ls
set_option linter.unusedVariables false

theorem hfrom_any (ax ay az : Int) (w : World) : Calls Tryz.prog 21 #[V3 ax ay az] w fun e w' => e = .returned (V3 ax ay az) ∧ Below w.heap.size w w' := by
  go_enter Tryz.func21, Tryz.ntmps21
  go_wp2
  exact bodyPost_ret (v := V3 ax ay az) (by simp [results, Tryz.results21, go_sem]) rfl ⟨rfl, below_n2 _ _ _⟩

theorem infoFromP : (Tryz.prog.info? 74).map (fun i => (i.zero, i.size, i.bytes)) = some (some (.agg #[.int .i64 0, .int .i64 0, .int .i64 0, .int .i64 0, .int .i64 0]), 5, 40) := by kernel_rfl

theorem infoFromT : (Tryz.prog.info? 77).map (fun i => (i.zero, i.size, i.bytes)) = some (some (.agg #[.int .i64 0, .slice none 0 0]), 2, 32) := by kernel_rfl

theorem infoFromJ : (Tryz.prog.info? 81).map (fun i => (i.zero, i.size, i.bytes)) = some (some (.agg #[.int .i64 0, .int .i64 0, .int .i64 0, .int .i64 0]), 4, 32) := by kernel_rfl

theorem infoFromS : (Tryz.prog.info? 85).map (fun i => (i.zero, i.size, i.bytes)) = some (some (.agg #[.int .i64 0, .int .i64 0, .int .i64 0, .int .i64 0, .int .i64 0, .int .i64 0, .int .i64 0, .int .i64 0, .int .i64 0, .int .i64 0, .int .i64 0, .int .i64 0, .int .i64 0]), 13, 104) := by kernel_rfl

set_option maxHeartbeats 8000000 in
set_option maxRecDepth 100000 in
theorem sfrom_any (s : Scn) (a : Pla) (w : World) (hs : ScAt w s a) :
    Calls Tryz.prog 8 #[SV s a] w fun e w' => (∃ a', e = .returned (SV s a') ∧ s.ns ≤ a'.sc ∧ ScAt w' s a') ∧ Below w.heap.size w w' := by
  obtain ⟨pa, pc, ta, tc, ja, jc, sa, sc⟩ := a
  have HSA := Lib.hid hs
  have hnp : s.np * (5 * 8) ≤ 140737488351232 := hs.p.1
  have hnt : s.nt * 32 ≤ 140737488351232 := hs.t.1
  have hnj : s.nj * (4 * 8) ≤ 140737488351232 := hs.j.1
  have hns : s.ns * (13 * 8) ≤ 140737488351232 := hs.sh.1
  clear hs
  obtain ⟨ip, hip, hz0p, hz1p, hz2p⟩ := info_parts infoFromP
  obtain ⟨it, hit, hz0t, hz1t, hz2t⟩ := info_parts infoFromT
  obtain ⟨ij, hij, hz0j, hz1j, hz2j⟩ := info_parts infoFromJ
  obtain ⟨is, his, hz0s, hz1s, hz2s⟩ := info_parts infoFromS
  have HB0 := (SBox.new w s ⟨pa, pc, ta, tc, ja, jc, sa, sc⟩ 36).on (below_n1 _ (.cells #[.int .i64 0, .int .i64 0, .int .i64 0, .int .i64 0, .int .i64 0, .int .i64 0, .int .u64 0, .int .i64 0, .int .i64 0, .int .i64 0, .int .i64 0, .int .i64 0, .int .i64 0, .slice none 0 0, .slice none 0 0, .slice none 0 0, .slice none 0 0] 49))
  have BW0 := below_n2 w (.cells (SC s ⟨pa, pc, ta, tc, ja, jc, sa, sc⟩) 36) (.cells #[.int .i64 0, .int .i64 0, .int .i64 0, .int .i64 0, .int .i64 0, .int .i64 0, .int .u64 0, .int .i64 0, .int .i64 0, .int .i64 0, .int .i64 0, .int .i64 0, .int .i64 0, .slice none 0 0, .slice none 0 0, .slice none 0 0, .slice none 0 0] 49)
  have HR0 := heap_last2 w (.cells (SC s ⟨pa, pc, ta, tc, ja, jc, sa, sc⟩) 36) (.cells #[.int .i64 0, .int .i64 0, .int .i64 0, .int .i64 0, .int .i64 0, .int .i64 0, .int .u64 0, .int .i64 0, .int .i64 0, .int .i64 0, .int .i64 0, .int .i64 0, .int .i64 0, .slice none 0 0, .slice none 0 0, .slice none 0 0, .slice none 0 0] 49)
  go_enter Tryz.func8, Tryz.ntmps8
  go_upto_region 2 with fail
  obtain ⟨W1, hW1⟩ : ∃ W1, (w.alloc (.cells (SC s ⟨pa, pc, ta, tc, ja, jc, sa, sc⟩) 36)).alloc (.cells #[.int .i64 0, .int .i64 0, .int .i64 0, .int .i64 0, .int .i64 0, .int .i64 0, .int .u64 0, .int .i64 0, .int .i64 0, .int .i64 0, .int .i64 0, .int .i64 0, .int .i64 0, .slice none 0 0, .slice none 0 0, .slice none 0 0, .slice none 0 0] 49) = W1 := ⟨_, rfl⟩
  have hz1 : W1.heap.size = w.heap.size + 1 + 1 := by rw [← hW1]; simp
  have hh1 : (W1.alloc (.cells #[.int .i64 s.w, .int .i64 s.h, .int .i64 s.sm, .int .i64 s.dp, .int .i64 s.fr, .int .i64 s.sh, .int .u64 s.sd, .int .i64 s.r, .int .i64 s.g, .int .i64 s.b] 28)).heap[w.heap.size + 1 + 1]? = some (.cells #[.int .i64 s.w, .int .i64 s.h, .int .i64 s.sm, .int .i64 s.dp, .int .i64 s.fr, .int .i64 s.sh, .int .u64 s.sd, .int .i64 s.r, .int .i64 s.g, .int .i64 s.b] 28 (0, 0)) := by rw [← hz1]; exact heap_alloc_last _ _
  rw [hW1] at HB0 BW0 HR0 ⊢
  have HB := Lib.hid HB0
  have BW := Lib.hid BW0
  have HR := Lib.hid HR0
  have BH := below_n1 W1 (.cells #[.int .i64 s.w, .int .i64 s.h, .int .i64 s.sm, .int .i64 s.dp, .int .i64 s.fr, .int .i64 s.sh, .int .u64 s.sd, .int .i64 s.r, .int .i64 s.g, .int .i64 s.b] 28)
  clear HB0 BW0 HR0 hW1
  go_cut [4] (fun s4 wx => ∃ q, s4 = .pointer (some ⟨q, 0, none⟩) ∧ Hid (ToS 74 77 81 85 W1 s q wx.heap.size 0 0 0 0 (.slice none 0 0) (.slice none 0 0) (.slice none 0 0) (.slice none 0 0) wx))
  case first =>
    refine wp_region_held_drew (S := fun y => Hid (SBox y w.heap.size s ⟨pa, pc, ta, tc, ja, jc, sa, sc⟩) ∧ y.heap[(w.heap.size + 1 + 1)]? = some (.cells #[.int .i64 s.w, .int .i64 s.h, .int .i64 s.sm, .int .i64 s.dp, .int .i64 s.fr, .int .i64 s.sh, .int .u64 s.sd, .int .i64 s.r, .int .i64 s.g, .int .i64 s.b] 28 (0, 0))) (by kernel_rfl) (⟨Lib.hid (HB.out.on BH.drew), hh1⟩) (fun hS0 => ?_)
    refine wpAnyH_take (i := 0) (v := ?_) rfl (by kernel_rfl) (by kernel_rfl) (by kernel_rfl) (fun _ _ _ h => h) (Or.inl ⟨by kernel_rfl, by (intro wz hSz; go_simp; try with_reducible rfl)⟩) hS0 ?_
    go_simp
    refine wpAnyH_take (i := 1) (v := ?_) rfl (by kernel_rfl) (by kernel_rfl) (by kernel_rfl) (fun _ _ _ h => h) (Or.inl ⟨by kernel_rfl, by (intro wz hSz; have hH := hSz.2; have c0 := cell_of_row _ _ 0 _ _ _ hH; have c1 := cell_of_row _ _ 1 _ _ _ hH; have c2 := cell_of_row _ _ 2 _ _ _ hH; have c3 := cell_of_row _ _ 3 _ _ _ hH; have c4 := cell_of_row _ _ 4 _ _ _ hH; have c5 := cell_of_row _ _ 5 _ _ _ hH; have c6 := cell_of_row _ _ 6 _ _ _ hH; have c7 := cell_of_row _ _ 7 _ _ _ hH; have c8 := cell_of_row _ _ 8 _ _ _ hH; have c9 := cell_of_row _ _ 9 _ _ _ hH; simp at c0 c1 c2 c3 c4 c5 c6 c7 c8 c9; obtain ⟨-, d0, d1, d2, d3, d4, d5, d6, d7, d8, d9, d10, d11, d12, -, -, -, -⟩ := hSz.1.out; go_simp; try with_reducible rfl)⟩) hS0 ?_
    go_simp
    refine wpAnyH_take (i := 2) (v := ?_) rfl (by kernel_rfl) (by kernel_rfl) (by kernel_rfl) (fun _ _ _ h => h) (Or.inl ⟨by kernel_rfl, by (intro wz hSz; go_simp; try with_reducible rfl)⟩) hS0 ?_
    go_simp
    refine wpAnyH_take (i := 3) (v := ?_) rfl (by kernel_rfl) (by kernel_rfl) (by kernel_rfl) (fun _ _ _ h => h) (Or.inl ⟨by kernel_rfl, by (intro wz hSz; have hH := hSz.2; have c0 := cell_of_row _ _ 0 _ _ _ hH; have c1 := cell_of_row _ _ 1 _ _ _ hH; have c2 := cell_of_row _ _ 2 _ _ _ hH; have c3 := cell_of_row _ _ 3 _ _ _ hH; have c4 := cell_of_row _ _ 4 _ _ _ hH; have c5 := cell_of_row _ _ 5 _ _ _ hH; have c6 := cell_of_row _ _ 6 _ _ _ hH; have c7 := cell_of_row _ _ 7 _ _ _ hH; have c8 := cell_of_row _ _ 8 _ _ _ hH; have c9 := cell_of_row _ _ 9 _ _ _ hH; simp at c0 c1 c2 c3 c4 c5 c6 c7 c8 c9; obtain ⟨-, d0, d1, d2, d3, d4, d5, d6, d7, d8, d9, d10, d11, d12, -, -, -, -⟩ := hSz.1.out; go_simp; try with_reducible rfl)⟩) hS0 ?_
    go_simp
    refine wpAnyH_take (i := 4) (v := ?_) rfl (by kernel_rfl) (by kernel_rfl) (by kernel_rfl) (fun _ _ _ h => h) (Or.inl ⟨by kernel_rfl, by (intro wz hSz; go_simp; try with_reducible rfl)⟩) hS0 ?_
    go_simp
    refine wpAnyH_take (i := 5) (v := ?_) rfl (by kernel_rfl) (by kernel_rfl) (by kernel_rfl) (fun _ _ _ h => h) (Or.inl ⟨by kernel_rfl, by (intro wz hSz; have hH := hSz.2; have c0 := cell_of_row _ _ 0 _ _ _ hH; have c1 := cell_of_row _ _ 1 _ _ _ hH; have c2 := cell_of_row _ _ 2 _ _ _ hH; have c3 := cell_of_row _ _ 3 _ _ _ hH; have c4 := cell_of_row _ _ 4 _ _ _ hH; have c5 := cell_of_row _ _ 5 _ _ _ hH; have c6 := cell_of_row _ _ 6 _ _ _ hH; have c7 := cell_of_row _ _ 7 _ _ _ hH; have c8 := cell_of_row _ _ 8 _ _ _ hH; have c9 := cell_of_row _ _ 9 _ _ _ hH; simp at c0 c1 c2 c3 c4 c5 c6 c7 c8 c9; obtain ⟨-, d0, d1, d2, d3, d4, d5, d6, d7, d8, d9, d10, d11, d12, -, -, -, -⟩ := hSz.1.out; go_simp; try with_reducible rfl)⟩) hS0 ?_
    go_simp
    refine wpAnyH_take (i := 6) (v := ?_) rfl (by kernel_rfl) (by kernel_rfl) (by kernel_rfl) (fun _ _ _ h => h) (Or.inl ⟨by kernel_rfl, by (intro wz hSz; go_simp; try with_reducible rfl)⟩) hS0 ?_
    go_simp
    refine wpAnyH_take (i := 7) (v := ?_) rfl (by kernel_rfl) (by kernel_rfl) (by kernel_rfl) (fun _ _ _ h => h) (Or.inl ⟨by kernel_rfl, by (intro wz hSz; have hH := hSz.2; have c0 := cell_of_row _ _ 0 _ _ _ hH; have c1 := cell_of_row _ _ 1 _ _ _ hH; have c2 := cell_of_row _ _ 2 _ _ _ hH; have c3 := cell_of_row _ _ 3 _ _ _ hH; have c4 := cell_of_row _ _ 4 _ _ _ hH; have c5 := cell_of_row _ _ 5 _ _ _ hH; have c6 := cell_of_row _ _ 6 _ _ _ hH; have c7 := cell_of_row _ _ 7 _ _ _ hH; have c8 := cell_of_row _ _ 8 _ _ _ hH; have c9 := cell_of_row _ _ 9 _ _ _ hH; simp at c0 c1 c2 c3 c4 c5 c6 c7 c8 c9; obtain ⟨-, d0, d1, d2, d3, d4, d5, d6, d7, d8, d9, d10, d11, d12, -, -, -, -⟩ := hSz.1.out; go_simp; try with_reducible rfl)⟩) hS0 ?_
    go_simp
    refine wpAnyH_take (i := 8) (v := ?_) rfl (by kernel_rfl) (by kernel_rfl) (by kernel_rfl) (fun _ _ _ h => h) (Or.inl ⟨by kernel_rfl, by (intro wz hSz; go_simp; try with_reducible rfl)⟩) hS0 ?_
    go_simp
    refine wpAnyH_take (i := 9) (v := ?_) rfl (by kernel_rfl) (by kernel_rfl) (by kernel_rfl) (fun _ _ _ h => h) (Or.inl ⟨by kernel_rfl, by (intro wz hSz; have hH := hSz.2; have c0 := cell_of_row _ _ 0 _ _ _ hH; have c1 := cell_of_row _ _ 1 _ _ _ hH; have c2 := cell_of_row _ _ 2 _ _ _ hH; have c3 := cell_of_row _ _ 3 _ _ _ hH; have c4 := cell_of_row _ _ 4 _ _ _ hH; have c5 := cell_of_row _ _ 5 _ _ _ hH; have c6 := cell_of_row _ _ 6 _ _ _ hH; have c7 := cell_of_row _ _ 7 _ _ _ hH; have c8 := cell_of_row _ _ 8 _ _ _ hH; have c9 := cell_of_row _ _ 9 _ _ _ hH; simp at c0 c1 c2 c3 c4 c5 c6 c7 c8 c9; obtain ⟨-, d0, d1, d2, d3, d4, d5, d6, d7, d8, d9, d10, d11, d12, -, -, -, -⟩ := hSz.1.out; go_simp; try with_reducible rfl)⟩) hS0 ?_
    go_simp
    refine wpAnyH_take (i := 10) (v := ?_) rfl (by kernel_rfl) (by kernel_rfl) (by kernel_rfl) (fun _ _ _ h => h) (Or.inl ⟨by kernel_rfl, by (intro wz hSz; go_simp; try with_reducible rfl)⟩) hS0 ?_
    go_simp
    refine wpAnyH_take (i := 11) (v := ?_) rfl (by kernel_rfl) (by kernel_rfl) (by kernel_rfl) (fun _ _ _ h => h) (Or.inl ⟨by kernel_rfl, by (intro wz hSz; have hH := hSz.2; have c0 := cell_of_row _ _ 0 _ _ _ hH; have c1 := cell_of_row _ _ 1 _ _ _ hH; have c2 := cell_of_row _ _ 2 _ _ _ hH; have c3 := cell_of_row _ _ 3 _ _ _ hH; have c4 := cell_of_row _ _ 4 _ _ _ hH; have c5 := cell_of_row _ _ 5 _ _ _ hH; have c6 := cell_of_row _ _ 6 _ _ _ hH; have c7 := cell_of_row _ _ 7 _ _ _ hH; have c8 := cell_of_row _ _ 8 _ _ _ hH; have c9 := cell_of_row _ _ 9 _ _ _ hH; simp at c0 c1 c2 c3 c4 c5 c6 c7 c8 c9; obtain ⟨-, d0, d1, d2, d3, d4, d5, d6, d7, d8, d9, d10, d11, d12, -, -, -, -⟩ := hSz.1.out; go_simp; try with_reducible rfl)⟩) hS0 ?_
    go_simp
    refine wpAnyH_take (i := 12) (v := ?_) rfl (by kernel_rfl) (by kernel_rfl) (by kernel_rfl) (fun _ _ _ h => h) (Or.inl ⟨by kernel_rfl, by (intro wz hSz; go_simp; try with_reducible rfl)⟩) hS0 ?_
    go_simp
    refine wpAnyH_take (i := 13) (v := ?_) rfl (by kernel_rfl) (by kernel_rfl) (by kernel_rfl) (fun _ _ _ h => h) (Or.inl ⟨by kernel_rfl, by (intro wz hSz; have hH := hSz.2; have c0 := cell_of_row _ _ 0 _ _ _ hH; have c1 := cell_of_row _ _ 1 _ _ _ hH; have c2 := cell_of_row _ _ 2 _ _ _ hH; have c3 := cell_of_row _ _ 3 _ _ _ hH; have c4 := cell_of_row _ _ 4 _ _ _ hH; have c5 := cell_of_row _ _ 5 _ _ _ hH; have c6 := cell_of_row _ _ 6 _ _ _ hH; have c7 := cell_of_row _ _ 7 _ _ _ hH; have c8 := cell_of_row _ _ 8 _ _ _ hH; have c9 := cell_of_row _ _ 9 _ _ _ hH; simp at c0 c1 c2 c3 c4 c5 c6 c7 c8 c9; obtain ⟨-, d0, d1, d2, d3, d4, d5, d6, d7, d8, d9, d10, d11, d12, -, -, -, -⟩ := hSz.1.out; go_simp; try with_reducible rfl)⟩) hS0 ?_
    go_simp
    refine wpAnyH_take (i := 14) (v := ?_) rfl (by kernel_rfl) (by kernel_rfl) (by kernel_rfl) (fun _ _ _ h => h) (Or.inl ⟨by kernel_rfl, by (intro wz hSz; go_simp; try with_reducible rfl)⟩) hS0 ?_
    go_simp
    refine wpAnyH_take (i := 15) (v := ?_) rfl (by kernel_rfl) (by kernel_rfl) (by kernel_rfl) (fun _ _ _ h => h) (Or.inl ⟨by kernel_rfl, by (intro wz hSz; have hH := hSz.2; have c0 := cell_of_row _ _ 0 _ _ _ hH; have c1 := cell_of_row _ _ 1 _ _ _ hH; have c2 := cell_of_row _ _ 2 _ _ _ hH; have c3 := cell_of_row _ _ 3 _ _ _ hH; have c4 := cell_of_row _ _ 4 _ _ _ hH; have c5 := cell_of_row _ _ 5 _ _ _ hH; have c6 := cell_of_row _ _ 6 _ _ _ hH; have c7 := cell_of_row _ _ 7 _ _ _ hH; have c8 := cell_of_row _ _ 8 _ _ _ hH; have c9 := cell_of_row _ _ 9 _ _ _ hH; simp at c0 c1 c2 c3 c4 c5 c6 c7 c8 c9; obtain ⟨-, d0, d1, d2, d3, d4, d5, d6, d7, d8, d9, d10, d11, d12, -, -, -, -⟩ := hSz.1.out; go_simp; try with_reducible rfl)⟩) hS0 ?_
    go_simp
    refine wpAnyH_take (i := 18) (v := ?_) rfl (by kernel_rfl) (by kernel_rfl) (by kernel_rfl) (fun _ _ _ h => h) (Or.inl ⟨by kernel_rfl, by (intro wz hSz; go_simp; try with_reducible rfl)⟩) hS0 ?_
    go_simp
    refine wpAnyH_take (i := 19) (v := ?_) rfl (by kernel_rfl) (by kernel_rfl) (by kernel_rfl) (fun _ _ _ h => h) (Or.inl ⟨by kernel_rfl, by (intro wz hSz; go_simp; try with_reducible rfl)⟩) hS0 ?_
    go_simp
    refine wpAnyH_take (i := 20) (v := ?_) rfl (by kernel_rfl) (by kernel_rfl) (by kernel_rfl) (fun _ _ _ h => h) (Or.inl ⟨by kernel_rfl, by (intro wz hSz; have hH := hSz.2; have c0 := cell_of_row _ _ 0 _ _ _ hH; have c1 := cell_of_row _ _ 1 _ _ _ hH; have c2 := cell_of_row _ _ 2 _ _ _ hH; have c3 := cell_of_row _ _ 3 _ _ _ hH; have c4 := cell_of_row _ _ 4 _ _ _ hH; have c5 := cell_of_row _ _ 5 _ _ _ hH; have c6 := cell_of_row _ _ 6 _ _ _ hH; have c7 := cell_of_row _ _ 7 _ _ _ hH; have c8 := cell_of_row _ _ 8 _ _ _ hH; have c9 := cell_of_row _ _ 9 _ _ _ hH; simp at c0 c1 c2 c3 c4 c5 c6 c7 c8 c9; obtain ⟨-, d0, d1, d2, d3, d4, d5, d6, d7, d8, d9, d10, d11, d12, -, -, -, -⟩ := hSz.1.out; go_simp; try with_reducible rfl)⟩) hS0 ?_
    go_simp
    refine wpAnyH_take (i := 21) (v := ?_) rfl (by kernel_rfl) (by kernel_rfl) (by kernel_rfl) (fun _ _ _ h => h) (Or.inl ⟨by kernel_rfl, by (intro wz hSz; go_simp; try with_reducible rfl)⟩) hS0 ?_
    go_simp
    refine wpAnyH_take (i := 22) (v := ?_) rfl (by kernel_rfl) (by kernel_rfl) (by kernel_rfl) (fun _ _ _ h => h) (Or.inl ⟨by kernel_rfl, by (intro wz hSz; go_simp; try with_reducible rfl)⟩) hS0 ?_
    go_simp
    refine wpAnyH_take (i := 23) (v := ?_) rfl (by kernel_rfl) (by kernel_rfl) (by kernel_rfl) (fun _ _ _ h => h) (Or.inl ⟨by kernel_rfl, by (intro wz hSz; have hH := hSz.2; have c0 := cell_of_row _ _ 0 _ _ _ hH; have c1 := cell_of_row _ _ 1 _ _ _ hH; have c2 := cell_of_row _ _ 2 _ _ _ hH; have c3 := cell_of_row _ _ 3 _ _ _ hH; have c4 := cell_of_row _ _ 4 _ _ _ hH; have c5 := cell_of_row _ _ 5 _ _ _ hH; have c6 := cell_of_row _ _ 6 _ _ _ hH; have c7 := cell_of_row _ _ 7 _ _ _ hH; have c8 := cell_of_row _ _ 8 _ _ _ hH; have c9 := cell_of_row _ _ 9 _ _ _ hH; simp at c0 c1 c2 c3 c4 c5 c6 c7 c8 c9; obtain ⟨-, d0, d1, d2, d3, d4, d5, d6, d7, d8, d9, d10, d11, d12, -, -, -, -⟩ := hSz.1.out; go_simp; try with_reducible rfl)⟩) hS0 ?_
    go_simp
    refine wpAnyH_take (i := 24) (v := ?_) rfl (by kernel_rfl) (by kernel_rfl) (by kernel_rfl) (fun _ _ _ h => h) (Or.inl ⟨by kernel_rfl, by (intro wz hSz; go_simp; try with_reducible rfl)⟩) hS0 ?_
    go_simp
    refine wpAnyH_take (i := 25) (v := ?_) rfl (by kernel_rfl) (by kernel_rfl) (by kernel_rfl) (fun _ _ _ h => h) (Or.inl ⟨by kernel_rfl, by (intro wz hSz; go_simp; try with_reducible rfl)⟩) hS0 ?_
    go_simp
    refine wpAnyH_take (i := 26) (v := ?_) rfl (by kernel_rfl) (by kernel_rfl) (by kernel_rfl) (fun _ _ _ h => h) (Or.inl ⟨by kernel_rfl, by (intro wz hSz; have hH := hSz.2; have c0 := cell_of_row _ _ 0 _ _ _ hH; have c1 := cell_of_row _ _ 1 _ _ _ hH; have c2 := cell_of_row _ _ 2 _ _ _ hH; have c3 := cell_of_row _ _ 3 _ _ _ hH; have c4 := cell_of_row _ _ 4 _ _ _ hH; have c5 := cell_of_row _ _ 5 _ _ _ hH; have c6 := cell_of_row _ _ 6 _ _ _ hH; have c7 := cell_of_row _ _ 7 _ _ _ hH; have c8 := cell_of_row _ _ 8 _ _ _ hH; have c9 := cell_of_row _ _ 9 _ _ _ hH; simp at c0 c1 c2 c3 c4 c5 c6 c7 c8 c9; obtain ⟨-, d0, d1, d2, d3, d4, d5, d6, d7, d8, d9, d10, d11, d12, -, -, -, -⟩ := hSz.1.out; go_simp; try with_reducible rfl)⟩) hS0 ?_
    go_simp
    refine wpAnyH_ready (rs := [16, 28]) (by kernel_rfl) (by simp) ?_
    refine AllReadyH.cons rfl (fun K hK => ?_) (AllReadyH.cons rfl (fun K hK => ?_) AllReadyH.nil)
    · skip
      go_simp
      go_wp2_with (go_at_call 21; refine (hfrom_any _ _ _ _).mono ?_; rintro e y1 ⟨rfl, hb1⟩)
      have hT1 := And.intro (Lib.hid (hS0.1.out.on hb1)) ((hb1.block _ (lt_heap hS0.2)).trans hS0.2)
      have B1 := BH.drew.trans (hb1.mono BH.drew.size)
      refine hK.out _ _ (hT1) (fun hS1 => ?_)
      clear hK K
      refine wpAnyH_take (i := 17) (v := ?_) rfl (by kernel_rfl) (by kernel_rfl) (by kernel_rfl) (fun _ _ _ h => h) (Or.inl ⟨by kernel_rfl, by (intro wz hSz; go_simp; try with_reducible rfl)⟩) hS1 ?_
      go_simp
      refine wpAnyH_take (i := 27) (v := ?_) rfl (by kernel_rfl) (by kernel_rfl) (by kernel_rfl) (fun _ _ _ h => h) (Or.inl ⟨by kernel_rfl, by (intro wz hSz; go_simp; try with_reducible rfl)⟩) hS1 ?_
      go_simp
      refine wpAnyH_ready (rs := [28]) (by kernel_rfl) (by simp) ?_
      refine AllReadyH.cons rfl (fun K hK => ?_) AllReadyH.nil
      go_simp
      have hA := below_n1 y1 (.cells #[.int .i64 0, .int .i64 0, .int .i64 0, .int .i64 0, .int .i64 0, .int .i64 0, .int .u64 0, .int .i64 0, .int .i64 0, .int .i64 0, .int .i64 0, .int .i64 0, .int .i64 0, .slice none 0 0, .slice none 0 0, .slice none 0 0, .slice none 0 0] 49)
      have hq0 : (y1.alloc (.cells #[.int .i64 0, .int .i64 0, .int .i64 0, .int .i64 0, .int .i64 0, .int .i64 0, .int .u64 0, .int .i64 0, .int .i64 0, .int .i64 0, .int .i64 0, .int .i64 0, .int .i64 0, .slice none 0 0, .slice none 0 0, .slice none 0 0, .slice none 0 0] 49)).heap[y1.heap.size]? = some (.cells #[.int .i64 0, .int .i64 0, .int .i64 0, .int .i64 0, .int .i64 0, .int .i64 0, .int .u64 0, .int .i64 0, .int .i64 0, .int .i64 0, .int .i64 0, .int .i64 0, .int .i64 0, .slice none 0 0, .slice none 0 0, .slice none 0 0, .slice none 0 0] 49 (0, 0)) := by have := heap_alloc_last y1 (.cells #[.int .i64 0, .int .i64 0, .int .i64 0, .int .i64 0, .int .i64 0, .int .i64 0, .int .u64 0, .int .i64 0, .int .i64 0, .int .i64 0, .int .i64 0, .int .i64 0, .int .i64 0, .slice none 0 0, .slice none 0 0, .slice none 0 0, .slice none 0 0] 49); exact this
      have hqz : W1.heap.size ≤ y1.heap.size := by have := (B1).size; omega
      have hqn : w.heap.size + 1 + 1 < y1.heap.size := by have := lt_heap hS1.2; omega
      have BA := (B1).trans (hA.mono (B1).size)
      have hTA := And.intro (Lib.hid (hS1.1.out.on hA)) ((hA.block _ (lt_heap hS1.2)).trans hS1.2)
      refine hK.out _ _ (hTA) (fun hSA => ?_)
      clear hK K
      refine wpAnyH_ready (rs := [29]) (by kernel_rfl) (by simp) ?_
      refine AllReadyH.cons rfl (fun K hK => ?_) AllReadyH.nil
      refine step_store_row rfl 49 (.tmp 4) (.tmp 42) rfl #[.int .i64 0, .int .i64 0, .int .i64 0, .int .i64 0, .int .i64 0, .int .i64 0, .int .u64 0, .int .i64 0, .int .i64 0, .int .i64 0, .int .i64 0, .int .i64 0, .int .i64 0, .slice none 0 0, .slice none 0 0, .slice none 0 0, .slice none 0 0] #[.int .i64 s.w, .int .i64 s.h, .int .i64 s.sm, .int .i64 s.dp, .int .i64 s.fr, .int .i64 s.sh, .int .u64 s.sd, .int .i64 s.r, .int .i64 s.g, .int .i64 s.b, .int .i64 s.ey, .int .i64 s.lk, .int .i64 s.wd, .slice none 0 0, .slice none 0 0, .slice none 0 0, .slice none 0 0] _ 49 hq0 rfl rfl (by kernel_rfl) rfl (by simp [Value.oneCell']) ?_
      have hTZ := And.intro (Lib.hid (SBox.low hSA.1.out (below_setRow (g := y1.heap.size) (Below.refl W1.heap.size _) hqz #[.int .i64 s.w, .int .i64 s.h, .int .i64 s.sm, .int .i64 s.dp, .int .i64 s.fr, .int .i64 s.sh, .int .u64 s.sd, .int .i64 s.r, .int .i64 s.g, .int .i64 s.b, .int .i64 s.ey, .int .i64 s.lk, .int .i64 s.wd, .slice none 0 0, .slice none 0 0, .slice none 0 0, .slice none 0 0]) (by omega))) ((setRow_other _ y1.heap.size _ #[.int .i64 s.w, .int .i64 s.h, .int .i64 s.sm, .int .i64 s.dp, .int .i64 s.fr, .int .i64 s.sh, .int .u64 s.sd, .int .i64 s.r, .int .i64 s.g, .int .i64 s.b, .int .i64 s.ey, .int .i64 s.lk, .int .i64 s.wd, .slice none 0 0, .slice none 0 0, .slice none 0 0, .slice none 0 0] (by omega)).trans hSA.2)
      have hZ := setRow_heap _ y1.heap.size _ #[.int .i64 s.w, .int .i64 s.h, .int .i64 s.sm, .int .i64 s.dp, .int .i64 s.fr, .int .i64 s.sh, .int .u64 s.sd, .int .i64 s.r, .int .i64 s.g, .int .i64 s.b, .int .i64 s.ey, .int .i64 s.lk, .int .i64 s.wd, .slice none 0 0, .slice none 0 0, .slice none 0 0, .slice none 0 0] _ _ hq0
      have BZ := below_setRow (g := y1.heap.size) (BA) hqz #[.int .i64 s.w, .int .i64 s.h, .int .i64 s.sm, .int .i64 s.dp, .int .i64 s.fr, .int .i64 s.sh, .int .u64 s.sd, .int .i64 s.r, .int .i64 s.g, .int .i64 s.b, .int .i64 s.ey, .int .i64 s.lk, .int .i64 s.wd, .slice none 0 0, .slice none 0 0, .slice none 0 0, .slice none 0 0]
      refine hK.out _ _ (hTZ) (fun hSZ => ?_)
      clear hK K
      refine wpAnyH_done (by kernel_rfl) ?_ _
      go_wp2_with fail
      go_meet
      exact ⟨_, rfl, Lib.hid (tos_start hqz hZ BZ)⟩
    · skip
      go_simp
      have hA := below_n1 ((W1.alloc (.cells #[.int .i64 s.w, .int .i64 s.h, .int .i64 s.sm, .int .i64 s.dp, .int .i64 s.fr, .int .i64 s.sh, .int .u64 s.sd, .int .i64 s.r, .int .i64 s.g, .int .i64 s.b] 28)).drew) (.cells #[.int .i64 0, .int .i64 0, .int .i64 0, .int .i64 0, .int .i64 0, .int .i64 0, .int .u64 0, .int .i64 0, .int .i64 0, .int .i64 0, .int .i64 0, .int .i64 0, .int .i64 0, .slice none 0 0, .slice none 0 0, .slice none 0 0, .slice none 0 0] 49)
      have hq0 : (((W1.alloc (.cells #[.int .i64 s.w, .int .i64 s.h, .int .i64 s.sm, .int .i64 s.dp, .int .i64 s.fr, .int .i64 s.sh, .int .u64 s.sd, .int .i64 s.r, .int .i64 s.g, .int .i64 s.b] 28)).drew).alloc (.cells #[.int .i64 0, .int .i64 0, .int .i64 0, .int .i64 0, .int .i64 0, .int .i64 0, .int .u64 0, .int .i64 0, .int .i64 0, .int .i64 0, .int .i64 0, .int .i64 0, .int .i64 0, .slice none 0 0, .slice none 0 0, .slice none 0 0, .slice none 0 0] 49)).heap[(w.heap.size + 1 + 1 + 1)]? = some (.cells #[.int .i64 0, .int .i64 0, .int .i64 0, .int .i64 0, .int .i64 0, .int .i64 0, .int .u64 0, .int .i64 0, .int .i64 0, .int .i64 0, .int .i64 0, .int .i64 0, .int .i64 0, .slice none 0 0, .slice none 0 0, .slice none 0 0, .slice none 0 0] 49 (0, 0)) := by have := heap_alloc_last ((W1.alloc (.cells #[.int .i64 s.w, .int .i64 s.h, .int .i64 s.sm, .int .i64 s.dp, .int .i64 s.fr, .int .i64 s.sh, .int .u64 s.sd, .int .i64 s.r, .int .i64 s.g, .int .i64 s.b] 28)).drew) (.cells #[.int .i64 0, .int .i64 0, .int .i64 0, .int .i64 0, .int .i64 0, .int .i64 0, .int .u64 0, .int .i64 0, .int .i64 0, .int .i64 0, .int .i64 0, .int .i64 0, .int .i64 0, .slice none 0 0, .slice none 0 0, .slice none 0 0, .slice none 0 0] 49); rw [show ((W1.alloc (.cells #[.int .i64 s.w, .int .i64 s.h, .int .i64 s.sm, .int .i64 s.dp, .int .i64 s.fr, .int .i64 s.sh, .int .u64 s.sd, .int .i64 s.r, .int .i64 s.g, .int .i64 s.b] 28)).drew).heap.size = w.heap.size + 1 + 1 + 1 by simp [hz1]] at this; exact this
      have hqz : W1.heap.size ≤ (w.heap.size + 1 + 1 + 1) := by have := (BH.drew).size; simp [hz1] at this ⊢; try omega
      have hqn : w.heap.size + 1 + 1 < (w.heap.size + 1 + 1 + 1) := by have := lt_heap hS0.2; simp [hz1] at this ⊢; try omega
      have BA := (BH.drew).trans (hA.mono (BH.drew).size)
      have hTA := And.intro (Lib.hid (hS0.1.out.on hA)) ((hA.block _ (lt_heap hS0.2)).trans hS0.2)
      refine hK.out _ _ (hTA) (fun hSA => ?_)
      clear hK K
      refine wpAnyH_ready (rs := [16]) (by kernel_rfl) (by simp) ?_
      refine AllReadyH.cons rfl (fun K hK => ?_) AllReadyH.nil
      go_simp
      go_wp2_with (go_at_call 21; refine (hfrom_any _ _ _ _).mono ?_; rintro e y1 ⟨rfl, hb1⟩)
      have hT1 := And.intro (Lib.hid (hSA.1.out.on hb1)) ((hb1.block _ (lt_heap hSA.2)).trans hSA.2)
      have B1 := BA.trans (hb1.mono BA.size)
      have hq1 := (hb1.block _ (lt_heap hq0)).trans hq0
      refine hK.out _ _ (hT1) (fun hS1 => ?_)
      clear hK K
      refine wpAnyH_take (i := 17) (v := ?_) rfl (by kernel_rfl) (by kernel_rfl) (by kernel_rfl) (fun _ _ _ h => h) (Or.inl ⟨by kernel_rfl, by (intro wz hSz; go_simp; try with_reducible rfl)⟩) hS1 ?_
      go_simp
      refine wpAnyH_take (i := 27) (v := ?_) rfl (by kernel_rfl) (by kernel_rfl) (by kernel_rfl) (fun _ _ _ h => h) (Or.inl ⟨by kernel_rfl, by (intro wz hSz; go_simp; try with_reducible rfl)⟩) hS1 ?_
      go_simp
      refine wpAnyH_ready (rs := [29]) (by kernel_rfl) (by simp) ?_
      refine AllReadyH.cons rfl (fun K hK => ?_) AllReadyH.nil
      refine step_store_row rfl 49 (.tmp 4) (.tmp 42) rfl #[.int .i64 0, .int .i64 0, .int .i64 0, .int .i64 0, .int .i64 0, .int .i64 0, .int .u64 0, .int .i64 0, .int .i64 0, .int .i64 0, .int .i64 0, .int .i64 0, .int .i64 0, .slice none 0 0, .slice none 0 0, .slice none 0 0, .slice none 0 0] #[.int .i64 s.w, .int .i64 s.h, .int .i64 s.sm, .int .i64 s.dp, .int .i64 s.fr, .int .i64 s.sh, .int .u64 s.sd, .int .i64 s.r, .int .i64 s.g, .int .i64 s.b, .int .i64 s.ey, .int .i64 s.lk, .int .i64 s.wd, .slice none 0 0, .slice none 0 0, .slice none 0 0, .slice none 0 0] _ 49 hq1 rfl rfl (by kernel_rfl) rfl (by simp [Value.oneCell']) ?_
      have hTZ := And.intro (Lib.hid (SBox.low hS1.1.out (below_setRow (g := (w.heap.size + 1 + 1 + 1)) (Below.refl W1.heap.size _) hqz #[.int .i64 s.w, .int .i64 s.h, .int .i64 s.sm, .int .i64 s.dp, .int .i64 s.fr, .int .i64 s.sh, .int .u64 s.sd, .int .i64 s.r, .int .i64 s.g, .int .i64 s.b, .int .i64 s.ey, .int .i64 s.lk, .int .i64 s.wd, .slice none 0 0, .slice none 0 0, .slice none 0 0, .slice none 0 0]) (by omega))) ((setRow_other _ (w.heap.size + 1 + 1 + 1) _ #[.int .i64 s.w, .int .i64 s.h, .int .i64 s.sm, .int .i64 s.dp, .int .i64 s.fr, .int .i64 s.sh, .int .u64 s.sd, .int .i64 s.r, .int .i64 s.g, .int .i64 s.b, .int .i64 s.ey, .int .i64 s.lk, .int .i64 s.wd, .slice none 0 0, .slice none 0 0, .slice none 0 0, .slice none 0 0] (by omega)).trans hS1.2)
      have hZ := setRow_heap _ (w.heap.size + 1 + 1 + 1) _ #[.int .i64 s.w, .int .i64 s.h, .int .i64 s.sm, .int .i64 s.dp, .int .i64 s.fr, .int .i64 s.sh, .int .u64 s.sd, .int .i64 s.r, .int .i64 s.g, .int .i64 s.b, .int .i64 s.ey, .int .i64 s.lk, .int .i64 s.wd, .slice none 0 0, .slice none 0 0, .slice none 0 0, .slice none 0 0] _ _ hq1
      have BZ := below_setRow (g := (w.heap.size + 1 + 1 + 1)) (B1) hqz #[.int .i64 s.w, .int .i64 s.h, .int .i64 s.sm, .int .i64 s.dp, .int .i64 s.fr, .int .i64 s.sh, .int .u64 s.sd, .int .i64 s.r, .int .i64 s.g, .int .i64 s.b, .int .i64 s.ey, .int .i64 s.lk, .int .i64 s.wd, .slice none 0 0, .slice none 0 0, .slice none 0 0, .slice none 0 0]
      refine hK.out _ _ (hTZ) (fun hSZ => ?_)
      clear hK K
      refine wpAnyH_done (by kernel_rfl) ?_ _
      go_wp2_with fail
      go_meet
      exact ⟨_, rfl, Lib.hid (tos_start hqz hZ BZ)⟩
  case rest =>
    obtain ⟨q, rfl, HT0⟩ := hcut
    obtain ⟨B0, hB0⟩ : ∃ B0, B0 = wc.heap.size := ⟨_, rfl⟩
    have HT := HT0
    rw [← hB0] at HT
    clear HT0 hB0
    have hq2 := HT.out.l2
    have hq3 := HT.out.l3
    have hsb := HB.out.low HT.out.bl (by omega)
    have d13 := hsb.c13
    have d14 := hsb.c14
    have d15 := hsb.c15
    have d16 := hsb.c16
    simp only at d13 d14 d15 d16
    clear hsb hh1 BH
    go_wp2_with fail
    go_loopw [46] (fun ix wr => ∃ (k : Nat) (pv : Value), k ≤ s.np ∧ ix = .int .i64 k ∧ Hid (ToS 74 77 81 85 W1 s q B0 k 0 0 0 pv (.slice none 0 0) (.slice none 0 0) (.slice none 0 0) wr)) (fun ix _ => s.np - (intOf ix).toNat)
    case atStart => exact ⟨0, _, Nat.zero_le _, rfl, HT⟩
    case round =>
      clear HT
      obtain ⟨k, pv, hk, rfl, HT⟩ := hrel
      by_cases hlt : k < s.np
      · have hlt' : (k : Int) < s.np := by omega
        have hww := BW.out.trans (HT.out.bl.mono (by omega))
        obtain ⟨b, off, hba, hb, f0, f1, f2, f3, f4⟩ := nums5 (HSA.out.on hww).p hlt
        have hba' : pa = some ⟨b, off, none⟩ := hba
        subst hba'
        have hT0 := HT.out.on ((below_n1 wr (.cells #[.int .i64 (s.P (k * 5)), .int .i64 (s.P (k * 5 + 1)), .int .i64 (s.P (k * 5 + 2)), .int .i64 (s.P (k * 5 + 3)), .int .i64 (s.P (k * 5 + 4))] 91)).drew)
        have hpq : wr.heap.size ≠ q := by have := HT.out.l2; have := HT.out.l3; omega
        have hpb : some wr.heap.size ≠ pv.ownBlock := fun e => by have := (HT.out.rp.lt _ e.symm).2; omega
        go_wp2_with fail
        refine wp_region_held_drew (S := fun y => y.heap[wr.heap.size]? = some (.cells #[.int .i64 (s.P (k * 5)), .int .i64 (s.P (k * 5 + 1)), .int .i64 (s.P (k * 5 + 2)), .int .i64 (s.P (k * 5 + 3)), .int .i64 (s.P (k * 5 + 4))] 91 (0, 0))) (by kernel_rfl) (heap_alloc_last wr _) (fun hS0 => ?_)
        obtain ⟨y0, hy0⟩ : ∃ y0, (wr.alloc (.cells #[.int .i64 (s.P (k * 5)), .int .i64 (s.P (k * 5 + 1)), .int .i64 (s.P (k * 5 + 2)), .int .i64 (s.P (k * 5 + 3)), .int .i64 (s.P (k * 5 + 4))] 91)).drew = y0 := ⟨_, rfl⟩
        rw [hy0] at hS0 hT0 ⊢
        clear hy0
        refine wpAnyH_take (i := 0) (v := ?_) rfl (by kernel_rfl) (by kernel_rfl) (by kernel_rfl) (fun _ _ _ h => h) (Or.inl ⟨by kernel_rfl, by (intro wz hSz; go_simp; try with_reducible rfl)⟩) hS0 ?_
        go_simp
        refine wpAnyH_take (i := 2) (v := ?_) rfl (by kernel_rfl) (by kernel_rfl) (by kernel_rfl) (fun _ _ _ h => h) (Or.inl ⟨by kernel_rfl, by (intro wz hSz; go_simp; try with_reducible rfl)⟩) hS0 ?_
        go_simp
        refine wpAnyH_take (i := 3) (v := ?_) rfl (by kernel_rfl) (by kernel_rfl) (by kernel_rfl) (fun _ _ _ h => h) (Or.inl ⟨by kernel_rfl, by (intro wz hSz; have c0 := cell_of_row _ _ 0 _ _ _ hSz; have c1 := cell_of_row _ _ 1 _ _ _ hSz; have c2 := cell_of_row _ _ 2 _ _ _ hSz; have c3 := cell_of_row _ _ 3 _ _ _ hSz; have c4 := cell_of_row _ _ 4 _ _ _ hSz; simp at c0 c1 c2 c3 c4; go_simp; try with_reducible rfl)⟩) hS0 ?_
        go_simp
        refine wpAnyH_take (i := 4) (v := ?_) rfl (by kernel_rfl) (by kernel_rfl) (by kernel_rfl) (fun _ _ _ h => h) (Or.inl ⟨by kernel_rfl, by (intro wz hSz; go_simp; try with_reducible rfl)⟩) hS0 ?_
        go_simp
        refine wpAnyH_take (i := 5) (v := ?_) rfl (by kernel_rfl) (by kernel_rfl) (by kernel_rfl) (fun _ _ _ h => h) (Or.inl ⟨by kernel_rfl, by (intro wz hSz; have c0 := cell_of_row _ _ 0 _ _ _ hSz; have c1 := cell_of_row _ _ 1 _ _ _ hSz; have c2 := cell_of_row _ _ 2 _ _ _ hSz; have c3 := cell_of_row _ _ 3 _ _ _ hSz; have c4 := cell_of_row _ _ 4 _ _ _ hSz; simp at c0 c1 c2 c3 c4; go_simp; try with_reducible rfl)⟩) hS0 ?_
        go_simp
        refine wpAnyH_take (i := 7) (v := ?_) rfl (by kernel_rfl) (by kernel_rfl) (by kernel_rfl) (fun _ _ _ h => h) (Or.inl ⟨by kernel_rfl, by (intro wz hSz; go_simp; try with_reducible rfl)⟩) hS0 ?_
        go_simp
        refine wpAnyH_take (i := 8) (v := ?_) rfl (by kernel_rfl) (by kernel_rfl) (by kernel_rfl) (fun _ _ _ h => h) (Or.inl ⟨by kernel_rfl, by (intro wz hSz; have c0 := cell_of_row _ _ 0 _ _ _ hSz; have c1 := cell_of_row _ _ 1 _ _ _ hSz; have c2 := cell_of_row _ _ 2 _ _ _ hSz; have c3 := cell_of_row _ _ 3 _ _ _ hSz; have c4 := cell_of_row _ _ 4 _ _ _ hSz; simp at c0 c1 c2 c3 c4; go_simp; try with_reducible rfl)⟩) hS0 ?_
        go_simp
        refine wpAnyH_ready (rs := [1, 6]) (by kernel_rfl) (by simp) ?_
        refine AllReadyH.cons rfl (fun K hK => ?_) (AllReadyH.cons rfl (fun K hK => ?_) AllReadyH.nil)
        · skip
          have o13 := hT0.ob.c13
          go_simp
          refine hK.out _ _ (hS0) (fun hS0l => ?_)
          clear hK K
          refine wpAnyH_ready (rs := [6]) (by kernel_rfl) (by simp) ?_
          refine AllReadyH.cons rfl (fun K hK => ?_) AllReadyH.nil
          go_simp
          go_wp2_with (go_at_call 21; refine (hfrom_any _ _ _ _).mono ?_; rintro e y1 ⟨rfl, hb1⟩)
          have hT1 := hT0.on hb1
          refine hK.out _ _ ((hb1.block _ (lt_heap hS0l)).trans hS0l) (fun hS1 => ?_)
          clear hK K
          refine wpAnyH_take (i := 9) (v := ?_) rfl (by kernel_rfl) (by kernel_rfl) (by kernel_rfl) (fun _ _ _ h => h) (Or.inl ⟨by kernel_rfl, by (intro wz hSz; go_simp; try with_reducible rfl)⟩) hS1 ?_
          go_simp
          refine wpAnyH_ready (rs := [10]) (by kernel_rfl) (by simp) ?_
          refine AllReadyH.cons rfl (fun K hK => ?_) AllReadyH.nil
          go_simp
          have hTB := hT1.on (below_n1 y1 (.cells #[.int .i64 (s.P (k * 5)), .int .i64 (s.P (k * 5 + 1)), .int .i64 (s.P (k * 5 + 2)), .int .i64 (s.P (k * 5 + 3)), .int .i64 (s.P (k * 5 + 4))] 74))
          refine hK.out _ _ (((below_n1 y1 (.cells #[.int .i64 (s.P (k * 5)), .int .i64 (s.P (k * 5 + 1)), .int .i64 (s.P (k * 5 + 2)), .int .i64 (s.P (k * 5 + 3)), .int .i64 (s.P (k * 5 + 4))] 74)).block _ (lt_heap hS1)).trans hS1) (fun hSB => ?_)
          clear hK K
          refine wpAnyH_ready (rs := [11]) (by kernel_rfl) (by simp) ?_
          refine AllReadyH.cons rfl (fun K hK => ?_) AllReadyH.nil
          have hl3 := hTB.l3
          have hrg := own_ge hTB.rp
          refine step_append_lies _ rfl _ _ 44 rfl B0 74 ip (.agg #[.int .i64 0, .int .i64 0, .int .i64 0, .int .i64 0, .int .i64 0]) 5 40 Tryz.underlying44 hip hz0p hz1p hz2p rfl (by decide) _ _ _ rfl hTB.rp ⟨y1.heap.size, 0, none⟩ 1 1 [.int .i64 (s.P (k * 5)), .int .i64 (s.P (k * 5 + 1)), .int .i64 (s.P (k * 5 + 2)), .int .i64 (s.P (k * 5 + 3)), .int .i64 (s.P (k * 5 + 4))] rfl rfl ?c1 ?c2 (by omega) ?c3 ?c4 ?c5 _ rfl ?_
          case c1 =>
            intro j u hj
            match j, hj with
            | 0, hj => simp at hj; subst hj; simp [Addr.add]
            | 1, hj => simp at hj; subst hj; simp [Addr.add]
            | 2, hj => simp at hj; subst hj; simp [Addr.add]
            | 3, hj => simp at hj; subst hj; simp [Addr.add]
            | 4, hj => simp at hj; subst hj; simp [Addr.add]
          case c2 => intro u hu; simp at hu; rcases hu with rfl | rfl | rfl | rfl | rfl <;> rfl
          case c3 => unfold maxLen; omega
          case c4 => omega
          case c5 => exact hl3
          intro g cg w2 hown hgrow hgk hlt2
          refine hK.out _ _ ((hgrow.block _ (lt_heap hSB) hpb).trans hSB) (fun hSA => ?_)
          clear hK K
          refine wpAnyH_take (i := 12) (v := ?_) rfl (by kernel_rfl) (by kernel_rfl) (by kernel_rfl) (fun _ _ _ h => h) (Or.inl ⟨by kernel_rfl, by (intro wz hSz; go_simp; try with_reducible rfl)⟩) hSA ?_
          go_simp
          refine wpAnyH_ready (rs := [13]) (by kernel_rfl) (by simp) ?_
          refine AllReadyH.cons rfl (fun K hK => ?_) AllReadyH.nil
          have o13 := (hTB.obk hgrow hrg).c13
          have fz := hTB.frg hgrow hrg 13
          go_simp
          refine hK.out _ _ ((Below.heap_setCell _ _ _ _ hpq).trans hSA) (fun hSZ => ?_)
          clear hK K
          refine wpAnyH_done (by kernel_rfl) ?_ _
          have hZ := hTB.stepP (by decide) (by decide) (by decide) (by decide) (by decide) (by decide) hgrow _ rfl (by rw [fl5_step]; exact hown) hgk
          go_wp2
          go_roundw
          case rel => exact ⟨k + 1, _, by omega, by go_num, Lib.hid hZ⟩
          case measure => simp [intOf]; omega
        · skip
          go_simp
          go_wp2_with (go_at_call 21; refine (hfrom_any _ _ _ _).mono ?_; rintro e y1 ⟨rfl, hb1⟩)
          have hT1 := hT0.on hb1
          refine hK.out _ _ ((hb1.block _ (lt_heap hS0)).trans hS0) (fun hS1 => ?_)
          clear hK K
          refine wpAnyH_take (i := 9) (v := ?_) rfl (by kernel_rfl) (by kernel_rfl) (by kernel_rfl) (fun _ _ _ h => h) (Or.inl ⟨by kernel_rfl, by (intro wz hSz; go_simp; try with_reducible rfl)⟩) hS1 ?_
          go_simp
          refine wpAnyH_ready (rs := [1, 10]) (by kernel_rfl) (by simp) ?_
          refine AllReadyH.cons rfl (fun K hK => ?_) (AllReadyH.cons rfl (fun K hK => ?_) AllReadyH.nil)
          · skip
            have o13 := hT1.ob.c13
            go_simp
            refine hK.out _ _ (hS1) (fun hS1l => ?_)
            clear hK K
            refine wpAnyH_ready (rs := [10]) (by kernel_rfl) (by simp) ?_
            refine AllReadyH.cons rfl (fun K hK => ?_) AllReadyH.nil
            go_simp
            have hTB := hT1.on (below_n1 y1 (.cells #[.int .i64 (s.P (k * 5)), .int .i64 (s.P (k * 5 + 1)), .int .i64 (s.P (k * 5 + 2)), .int .i64 (s.P (k * 5 + 3)), .int .i64 (s.P (k * 5 + 4))] 74))
            refine hK.out _ _ (((below_n1 y1 (.cells #[.int .i64 (s.P (k * 5)), .int .i64 (s.P (k * 5 + 1)), .int .i64 (s.P (k * 5 + 2)), .int .i64 (s.P (k * 5 + 3)), .int .i64 (s.P (k * 5 + 4))] 74)).block _ (lt_heap hS1l)).trans hS1l) (fun hSB => ?_)
            clear hK K
            refine wpAnyH_ready (rs := [11]) (by kernel_rfl) (by simp) ?_
            refine AllReadyH.cons rfl (fun K hK => ?_) AllReadyH.nil
            have hl3 := hTB.l3
            have hrg := own_ge hTB.rp
            refine step_append_lies _ rfl _ _ 44 rfl B0 74 ip (.agg #[.int .i64 0, .int .i64 0, .int .i64 0, .int .i64 0, .int .i64 0]) 5 40 Tryz.underlying44 hip hz0p hz1p hz2p rfl (by decide) _ _ _ rfl hTB.rp ⟨y1.heap.size, 0, none⟩ 1 1 [.int .i64 (s.P (k * 5)), .int .i64 (s.P (k * 5 + 1)), .int .i64 (s.P (k * 5 + 2)), .int .i64 (s.P (k * 5 + 3)), .int .i64 (s.P (k * 5 + 4))] rfl rfl ?c1 ?c2 (by omega) ?c3 ?c4 ?c5 _ rfl ?_
            case c1 =>
              intro j u hj
              match j, hj with
              | 0, hj => simp at hj; subst hj; simp [Addr.add]
              | 1, hj => simp at hj; subst hj; simp [Addr.add]
              | 2, hj => simp at hj; subst hj; simp [Addr.add]
              | 3, hj => simp at hj; subst hj; simp [Addr.add]
              | 4, hj => simp at hj; subst hj; simp [Addr.add]
            case c2 => intro u hu; simp at hu; rcases hu with rfl | rfl | rfl | rfl | rfl <;> rfl
            case c3 => unfold maxLen; omega
            case c4 => omega
            case c5 => exact hl3
            intro g cg w2 hown hgrow hgk hlt2
            refine hK.out _ _ ((hgrow.block _ (lt_heap hSB) hpb).trans hSB) (fun hSA => ?_)
            clear hK K
            refine wpAnyH_take (i := 12) (v := ?_) rfl (by kernel_rfl) (by kernel_rfl) (by kernel_rfl) (fun _ _ _ h => h) (Or.inl ⟨by kernel_rfl, by (intro wz hSz; go_simp; try with_reducible rfl)⟩) hSA ?_
            go_simp
            refine wpAnyH_ready (rs := [13]) (by kernel_rfl) (by simp) ?_
            refine AllReadyH.cons rfl (fun K hK => ?_) AllReadyH.nil
            have o13 := (hTB.obk hgrow hrg).c13
            have fz := hTB.frg hgrow hrg 13
            go_simp
            refine hK.out _ _ ((Below.heap_setCell _ _ _ _ hpq).trans hSA) (fun hSZ => ?_)
            clear hK K
            refine wpAnyH_done (by kernel_rfl) ?_ _
            have hZ := hTB.stepP (by decide) (by decide) (by decide) (by decide) (by decide) (by decide) hgrow _ rfl (by rw [fl5_step]; exact hown) hgk
            go_wp2
            go_roundw
            case rel => exact ⟨k + 1, _, by omega, by go_num, Lib.hid hZ⟩
            case measure => simp [intOf]; omega
          · skip
            go_simp
            have hTB := hT1.on (below_n1 y1 (.cells #[.int .i64 (s.P (k * 5)), .int .i64 (s.P (k * 5 + 1)), .int .i64 (s.P (k * 5 + 2)), .int .i64 (s.P (k * 5 + 3)), .int .i64 (s.P (k * 5 + 4))] 74))
            refine hK.out _ _ (((below_n1 y1 (.cells #[.int .i64 (s.P (k * 5)), .int .i64 (s.P (k * 5 + 1)), .int .i64 (s.P (k * 5 + 2)), .int .i64 (s.P (k * 5 + 3)), .int .i64 (s.P (k * 5 + 4))] 74)).block _ (lt_heap hS1)).trans hS1) (fun hSB => ?_)
            clear hK K
            refine wpAnyH_ready (rs := [1]) (by kernel_rfl) (by simp) ?_
            refine AllReadyH.cons rfl (fun K hK => ?_) AllReadyH.nil
            have o13 := hTB.ob.c13
            go_simp
            refine hK.out _ _ (hSB) (fun hSBl => ?_)
            clear hK K
            refine wpAnyH_ready (rs := [11]) (by kernel_rfl) (by simp) ?_
            refine AllReadyH.cons rfl (fun K hK => ?_) AllReadyH.nil
            have hl3 := hTB.l3
            have hrg := own_ge hTB.rp
            refine step_append_lies _ rfl _ _ 44 rfl B0 74 ip (.agg #[.int .i64 0, .int .i64 0, .int .i64 0, .int .i64 0, .int .i64 0]) 5 40 Tryz.underlying44 hip hz0p hz1p hz2p rfl (by decide) _ _ _ rfl hTB.rp ⟨y1.heap.size, 0, none⟩ 1 1 [.int .i64 (s.P (k * 5)), .int .i64 (s.P (k * 5 + 1)), .int .i64 (s.P (k * 5 + 2)), .int .i64 (s.P (k * 5 + 3)), .int .i64 (s.P (k * 5 + 4))] rfl rfl ?c1 ?c2 (by omega) ?c3 ?c4 ?c5 _ rfl ?_
            case c1 =>
              intro j u hj
              match j, hj with
              | 0, hj => simp at hj; subst hj; simp [Addr.add]
              | 1, hj => simp at hj; subst hj; simp [Addr.add]
              | 2, hj => simp at hj; subst hj; simp [Addr.add]
              | 3, hj => simp at hj; subst hj; simp [Addr.add]
              | 4, hj => simp at hj; subst hj; simp [Addr.add]
            case c2 => intro u hu; simp at hu; rcases hu with rfl | rfl | rfl | rfl | rfl <;> rfl
            case c3 => unfold maxLen; omega
            case c4 => omega
            case c5 => exact hl3
            intro g cg w2 hown hgrow hgk hlt2
            refine hK.out _ _ ((hgrow.block _ (lt_heap hSBl) hpb).trans hSBl) (fun hSA => ?_)
            clear hK K
            refine wpAnyH_take (i := 12) (v := ?_) rfl (by kernel_rfl) (by kernel_rfl) (by kernel_rfl) (fun _ _ _ h => h) (Or.inl ⟨by kernel_rfl, by (intro wz hSz; go_simp; try with_reducible rfl)⟩) hSA ?_
            go_simp
            refine wpAnyH_ready (rs := [13]) (by kernel_rfl) (by simp) ?_
            refine AllReadyH.cons rfl (fun K hK => ?_) AllReadyH.nil
            have o13 := (hTB.obk hgrow hrg).c13
            have fz := hTB.frg hgrow hrg 13
            go_simp
            refine hK.out _ _ ((Below.heap_setCell _ _ _ _ hpq).trans hSA) (fun hSZ => ?_)
            clear hK K
            refine wpAnyH_done (by kernel_rfl) ?_ _
            have hZ := hTB.stepP (by decide) (by decide) (by decide) (by decide) (by decide) (by decide) hgrow _ rfl (by rw [fl5_step]; exact hown) hgk
            go_wp2
            go_roundw
            case rel => exact ⟨k + 1, _, by omega, by go_num, Lib.hid hZ⟩
            case measure => simp [intOf]; omega
      · obtain rfl : k = s.np := by omega
        have hq2 := HT.out.l2
        have hq3 := HT.out.l3
        have hsb := HB.out.low HT.out.bl (by omega)
        have d13 := hsb.c13
        have d14 := hsb.c14
        have d15 := hsb.c15
        have d16 := hsb.c16
        simp only at d13 d14 d15 d16
        clear hsb
        go_wp2_with fail
        go_loopw [67] (fun ix wr => ∃ (k : Nat) (tv : Value), k ≤ s.nt ∧ ix = .int .i64 k ∧ Hid (ToS 74 77 81 85 W1 s q B0 s.np k 0 0 pv tv (.slice none 0 0) (.slice none 0 0) wr)) (fun ix _ => s.nt - (intOf ix).toNat)
        case atStart => exact ⟨0, _, Nat.zero_le _, rfl, HT⟩
        case round =>
          clear HT
          obtain ⟨k, tv, hk, rfl, HT⟩ := hrel
          by_cases hlt : k < s.nt
          · have hlt' : (k : Int) < s.nt := by omega
            have hww := BW.out.trans (HT.out.bl.mono (by omega))
            obtain ⟨-, h9 | ⟨b, off, hba, hb, hcs⟩⟩ := (HSA.out.on hww).t
            · omega
            obtain ⟨ka, kc, f0, f1, hka⟩ := hcs k hlt
            rw [show off + (k * 2 + 1) = off + k * 2 + 1 by omega] at f1
            have HKY := Lib.hid (hka.on ((below_n1 wr (.cells #[.int .i64 (s.way k), .slice ka (s.kn k) kc] 94)).drew))
            clear hcs hka
            have hba' : ta = some ⟨b, off, none⟩ := hba
            subst hba'
            have hT0 := HT.out.on ((below_n1 wr (.cells #[.int .i64 (s.way k), .slice ka (s.kn k) kc] 94)).drew)
            have hpq : wr.heap.size ≠ q := by have := HT.out.l2; have := HT.out.l3; omega
            have hpb : some wr.heap.size ≠ tv.ownBlock := fun e => by obtain ⟨kx, ky, hx, -⟩ := HT.out.rt; have := (hx.lt _ e.symm).2; omega
            go_wp2_with fail
            refine wp_region_held_drew (S := fun y => y.heap[wr.heap.size]? = some (.cells #[.int .i64 (s.way k), .slice ka (s.kn k) kc] 94 (0, 0))) (by kernel_rfl) (heap_alloc_last wr _) (fun hS0 => ?_)
            obtain ⟨y0, hy0⟩ : ∃ y0, (wr.alloc (.cells #[.int .i64 (s.way k), .slice ka (s.kn k) kc] 94)).drew = y0 := ⟨_, rfl⟩
            rw [hy0] at hS0 hT0 ⊢
            rw [hy0] at HKY
            clear hy0
            refine wpAnyH_take (i := 0) (v := ?_) rfl (by kernel_rfl) (by kernel_rfl) (by kernel_rfl) (fun _ _ _ h => h) (Or.inl ⟨by kernel_rfl, by (intro wz hSz; go_simp; try with_reducible rfl)⟩) hS0 ?_
            go_simp
            refine wpAnyH_take (i := 2) (v := ?_) rfl (by kernel_rfl) (by kernel_rfl) (by kernel_rfl) (fun _ _ _ h => h) (Or.inl ⟨by kernel_rfl, by (intro wz hSz; have c0 := cell_of_row _ _ 0 _ _ _ hSz; have c1 := cell_of_row _ _ 1 _ _ _ hSz; simp at c0 c1; go_simp; try with_reducible rfl)⟩) hS0 ?_
            go_simp
            refine wpAnyH_ready (rs := [1, 3]) (by kernel_rfl) (by simp) ?_
            refine AllReadyH.cons rfl (fun K hK => ?_) (AllReadyH.cons rfl (fun K hK => ?_) AllReadyH.nil)
            · skip
              have o14 := hT0.ob.c14
              go_simp
              refine hK.out _ _ (hS0) (fun hS0l => ?_)
              clear hK K
              refine wpAnyH_ready (rs := [3]) (by kernel_rfl) (by simp) ?_
              refine AllReadyH.cons rfl (fun K hK => ?_) AllReadyH.nil
              go_simp
              go_wp2_with (go_at_call 22; refine (tfrom2_any _ _ _ _ _ _ HKY.out).mono ?_; rintro e y1 ⟨⟨ka1, kc1, rfl, hk1, hkb1⟩, hb1⟩)
              have hT1 := hT0.on hb1
              refine hK.out _ _ ((hb1.block _ (lt_heap hS0l)).trans hS0l) (fun hS1 => ?_)
              clear hK K
              refine wpAnyH_ready (rs := [4]) (by kernel_rfl) (by simp) ?_
              refine AllReadyH.cons rfl (fun K hK => ?_) AllReadyH.nil
              go_simp
              have hTB := hT1.on (below_n1 y1 (.cells #[.int .i64 (s.way k), .slice ka1 (s.kn k) kc1] 77))
              refine hK.out _ _ (((below_n1 y1 (.cells #[.int .i64 (s.way k), .slice ka1 (s.kn k) kc1] 77)).block _ (lt_heap hS1)).trans hS1) (fun hSB => ?_)
              clear hK K
              refine wpAnyH_ready (rs := [5]) (by kernel_rfl) (by simp) ?_
              refine AllReadyH.cons rfl (fun K hK => ?_) AllReadyH.nil
              obtain ⟨kaO, kcO, hR1, hR2⟩ := hTB.rt
              have hl3 := hTB.l3
              have hrg := own_ge hR1
              refine step_append_lies _ rfl _ _ 45 rfl B0 77 it (.agg #[.int .i64 0, .slice none 0 0]) 2 32 Tryz.underlying45 hit hz0t hz1t hz2t rfl (by decide) _ _ _ rfl hR1 ⟨y1.heap.size, 0, none⟩ 1 1 [.int .i64 (s.way k), .slice ka1 (s.kn k) kc1] rfl rfl ?c1 ?c2 (by omega) ?c3 ?c4 ?c5 _ rfl ?_
              case c1 =>
                intro j u hj
                match j, hj with
                | 0, hj => simp at hj; subst hj; simp [Addr.add]
                | 1, hj => simp at hj; subst hj; simp [Addr.add]
              case c2 => intro u hu; simp at hu; rcases hu with rfl | rfl <;> rfl
              case c3 => unfold maxLen; omega
              case c4 => omega
              case c5 => exact hl3
              intro g cg w2 hown hgrow hgk hlt2
              refine hK.out _ _ ((hgrow.block _ (lt_heap hSB) hpb).trans hSB) (fun hSA => ?_)
              clear hK K
              refine wpAnyH_take (i := 6) (v := ?_) rfl (by kernel_rfl) (by kernel_rfl) (by kernel_rfl) (fun _ _ _ h => h) (Or.inl ⟨by kernel_rfl, by (intro wz hSz; go_simp; try with_reducible rfl)⟩) hSA ?_
              go_simp
              refine wpAnyH_ready (rs := [7]) (by kernel_rfl) (by simp) ?_
              refine AllReadyH.cons rfl (fun K hK => ?_) AllReadyH.nil
              have o14 := (hTB.obk hgrow hrg).c14
              have fz := hTB.frg hgrow hrg 14
              go_simp
              refine hK.out _ _ ((Below.heap_setCell _ _ _ _ hpq).trans hSA) (fun hSZ => ?_)
              clear hK K
              refine wpAnyH_done (by kernel_rfl) ?_ _
              have hZ := hT0.stepT (by decide) (by decide) (by decide) (by decide) (by decide) (by decide) (by have := hTB.l3; have := hb1.size; simp; omega) ka1 kc1 (hk1.on (below_n1 _ _)) hkb1 hTB kaO kcO hR1 hR2 hgrow _ rfl hown hgk
              go_wp2
              go_roundw
              case rel => exact ⟨k + 1, _, by omega, by go_num, Lib.hid hZ⟩
              case measure => simp [intOf]; omega
            · skip
              go_simp
              go_wp2_with (go_at_call 22; refine (tfrom2_any _ _ _ _ _ _ HKY.out).mono ?_; rintro e y1 ⟨⟨ka1, kc1, rfl, hk1, hkb1⟩, hb1⟩)
              have hT1 := hT0.on hb1
              refine hK.out _ _ ((hb1.block _ (lt_heap hS0)).trans hS0) (fun hS1 => ?_)
              clear hK K
              refine wpAnyH_ready (rs := [1, 4]) (by kernel_rfl) (by simp) ?_
              refine AllReadyH.cons rfl (fun K hK => ?_) (AllReadyH.cons rfl (fun K hK => ?_) AllReadyH.nil)
              · skip
                have o14 := hT1.ob.c14
                go_simp
                refine hK.out _ _ (hS1) (fun hS1l => ?_)
                clear hK K
                refine wpAnyH_ready (rs := [4]) (by kernel_rfl) (by simp) ?_
                refine AllReadyH.cons rfl (fun K hK => ?_) AllReadyH.nil
                go_simp
                have hTB := hT1.on (below_n1 y1 (.cells #[.int .i64 (s.way k), .slice ka1 (s.kn k) kc1] 77))
                refine hK.out _ _ (((below_n1 y1 (.cells #[.int .i64 (s.way k), .slice ka1 (s.kn k) kc1] 77)).block _ (lt_heap hS1l)).trans hS1l) (fun hSB => ?_)
                clear hK K
                refine wpAnyH_ready (rs := [5]) (by kernel_rfl) (by simp) ?_
                refine AllReadyH.cons rfl (fun K hK => ?_) AllReadyH.nil
                obtain ⟨kaO, kcO, hR1, hR2⟩ := hTB.rt
                have hl3 := hTB.l3
                have hrg := own_ge hR1
                refine step_append_lies _ rfl _ _ 45 rfl B0 77 it (.agg #[.int .i64 0, .slice none 0 0]) 2 32 Tryz.underlying45 hit hz0t hz1t hz2t rfl (by decide) _ _ _ rfl hR1 ⟨y1.heap.size, 0, none⟩ 1 1 [.int .i64 (s.way k), .slice ka1 (s.kn k) kc1] rfl rfl ?c1 ?c2 (by omega) ?c3 ?c4 ?c5 _ rfl ?_
                case c1 =>
                  intro j u hj
                  match j, hj with
                  | 0, hj => simp at hj; subst hj; simp [Addr.add]
                  | 1, hj => simp at hj; subst hj; simp [Addr.add]
                case c2 => intro u hu; simp at hu; rcases hu with rfl | rfl <;> rfl
                case c3 => unfold maxLen; omega
                case c4 => omega
                case c5 => exact hl3
                intro g cg w2 hown hgrow hgk hlt2
                refine hK.out _ _ ((hgrow.block _ (lt_heap hSB) hpb).trans hSB) (fun hSA => ?_)
                clear hK K
                refine wpAnyH_take (i := 6) (v := ?_) rfl (by kernel_rfl) (by kernel_rfl) (by kernel_rfl) (fun _ _ _ h => h) (Or.inl ⟨by kernel_rfl, by (intro wz hSz; go_simp; try with_reducible rfl)⟩) hSA ?_
                go_simp
                refine wpAnyH_ready (rs := [7]) (by kernel_rfl) (by simp) ?_
                refine AllReadyH.cons rfl (fun K hK => ?_) AllReadyH.nil
                have o14 := (hTB.obk hgrow hrg).c14
                have fz := hTB.frg hgrow hrg 14
                go_simp
                refine hK.out _ _ ((Below.heap_setCell _ _ _ _ hpq).trans hSA) (fun hSZ => ?_)
                clear hK K
                refine wpAnyH_done (by kernel_rfl) ?_ _
                have hZ := hT0.stepT (by decide) (by decide) (by decide) (by decide) (by decide) (by decide) (by have := hTB.l3; have := hb1.size; simp; omega) ka1 kc1 (hk1.on (below_n1 _ _)) hkb1 hTB kaO kcO hR1 hR2 hgrow _ rfl hown hgk
                go_wp2
                go_roundw
                case rel => exact ⟨k + 1, _, by omega, by go_num, Lib.hid hZ⟩
                case measure => simp [intOf]; omega
              · skip
                go_simp
                have hTB := hT1.on (below_n1 y1 (.cells #[.int .i64 (s.way k), .slice ka1 (s.kn k) kc1] 77))
                refine hK.out _ _ (((below_n1 y1 (.cells #[.int .i64 (s.way k), .slice ka1 (s.kn k) kc1] 77)).block _ (lt_heap hS1)).trans hS1) (fun hSB => ?_)
                clear hK K
                refine wpAnyH_ready (rs := [1]) (by kernel_rfl) (by simp) ?_
                refine AllReadyH.cons rfl (fun K hK => ?_) AllReadyH.nil
                have o14 := hTB.ob.c14
                go_simp
                refine hK.out _ _ (hSB) (fun hSBl => ?_)
                clear hK K
                refine wpAnyH_ready (rs := [5]) (by kernel_rfl) (by simp) ?_
                refine AllReadyH.cons rfl (fun K hK => ?_) AllReadyH.nil
                obtain ⟨kaO, kcO, hR1, hR2⟩ := hTB.rt
                have hl3 := hTB.l3
                have hrg := own_ge hR1
                refine step_append_lies _ rfl _ _ 45 rfl B0 77 it (.agg #[.int .i64 0, .slice none 0 0]) 2 32 Tryz.underlying45 hit hz0t hz1t hz2t rfl (by decide) _ _ _ rfl hR1 ⟨y1.heap.size, 0, none⟩ 1 1 [.int .i64 (s.way k), .slice ka1 (s.kn k) kc1] rfl rfl ?c1 ?c2 (by omega) ?c3 ?c4 ?c5 _ rfl ?_
                case c1 =>
                  intro j u hj
                  match j, hj with
                  | 0, hj => simp at hj; subst hj; simp [Addr.add]
                  | 1, hj => simp at hj; subst hj; simp [Addr.add]
                case c2 => intro u hu; simp at hu; rcases hu with rfl | rfl <;> rfl
                case c3 => unfold maxLen; omega
                case c4 => omega
                case c5 => exact hl3
                intro g cg w2 hown hgrow hgk hlt2
                refine hK.out _ _ ((hgrow.block _ (lt_heap hSBl) hpb).trans hSBl) (fun hSA => ?_)
                clear hK K
                refine wpAnyH_take (i := 6) (v := ?_) rfl (by kernel_rfl) (by kernel_rfl) (by kernel_rfl) (fun _ _ _ h => h) (Or.inl ⟨by kernel_rfl, by (intro wz hSz; go_simp; try with_reducible rfl)⟩) hSA ?_
                go_simp
                refine wpAnyH_ready (rs := [7]) (by kernel_rfl) (by simp) ?_
                refine AllReadyH.cons rfl (fun K hK => ?_) AllReadyH.nil
                have o14 := (hTB.obk hgrow hrg).c14
                have fz := hTB.frg hgrow hrg 14
                go_simp
                refine hK.out _ _ ((Below.heap_setCell _ _ _ _ hpq).trans hSA) (fun hSZ => ?_)
                clear hK K
                refine wpAnyH_done (by kernel_rfl) ?_ _
                have hZ := hT0.stepT (by decide) (by decide) (by decide) (by decide) (by decide) (by decide) (by have := hTB.l3; have := hb1.size; simp; omega) ka1 kc1 (hk1.on (below_n1 _ _)) hkb1 hTB kaO kcO hR1 hR2 hgrow _ rfl hown hgk
                go_wp2
                go_roundw
                case rel => exact ⟨k + 1, _, by omega, by go_num, Lib.hid hZ⟩
                case measure => simp [intOf]; omega
          · obtain rfl : k = s.nt := by omega
            have hq2 := HT.out.l2
            have hq3 := HT.out.l3
            have hsb := HB.out.low HT.out.bl (by omega)
            have d13 := hsb.c13
            have d14 := hsb.c14
            have d15 := hsb.c15
            have d16 := hsb.c16
            simp only at d13 d14 d15 d16
            clear hsb
            go_wp2_with fail
            go_loopw [82] (fun ix wr => ∃ (k : Nat) (jv : Value), k ≤ s.nj ∧ ix = .int .i64 k ∧ Hid (ToS 74 77 81 85 W1 s q B0 s.np s.nt k 0 pv tv jv (.slice none 0 0) wr)) (fun ix _ => s.nj - (intOf ix).toNat)
            case atStart => exact ⟨0, _, Nat.zero_le _, rfl, HT⟩
            case round =>
              clear HT
              obtain ⟨k, jv, hk, rfl, HT⟩ := hrel
              by_cases hlt : k < s.nj
              · have hlt' : (k : Int) < s.nj := by omega
                have hww := BW.out.trans (HT.out.bl.mono (by omega))
                obtain ⟨b, off, hba, hb, f0, f1, f2, f3⟩ := nums4 (HSA.out.on hww).j hlt
                have hba' : ja = some ⟨b, off, none⟩ := hba
                subst hba'
                have hT0 := HT.out.on ((below_n1 wr (.cells #[.int .i64 (s.J (k * 4)), .int .i64 (s.J (k * 4 + 1)), .int .i64 (s.J (k * 4 + 2)), .int .i64 (s.J (k * 4 + 3))] 97)).drew)
                have hpq : wr.heap.size ≠ q := by have := HT.out.l2; have := HT.out.l3; omega
                have hpb : some wr.heap.size ≠ jv.ownBlock := fun e => by have := (HT.out.rj.lt _ e.symm).2; omega
                have HTB := Lib.hid (HT.out.on (below_n2 wr (.cells #[.int .i64 (s.J (k * 4)), .int .i64 (s.J (k * 4 + 1)), .int .i64 (s.J (k * 4 + 2)), .int .i64 (s.J (k * 4 + 3))] 97) (.cells #[.int .i64 (s.J (k * 4)), .int .i64 (s.J (k * 4 + 1)), .int .i64 (s.J (k * 4 + 2)), .int .i64 (s.J (k * 4 + 3))] 81)))
                have hl3 := HTB.out.l3
                have hrg := own_ge HTB.out.rj
                have hl3' := HT.out.l3
                have o15b := HT.out.ob.c15
                have hqlt : q < wr.heap.size := by have := HT.out.l2; omega
                have hx1 : ∀ j u, ([.int .i64 (s.J (k * 4)), .int .i64 (s.J (k * 4 + 1)), .int .i64 (s.J (k * 4 + 2)), .int .i64 (s.J (k * 4 + 3))] : List Value)[j]? = some u → ((wr.alloc (.cells #[.int .i64 (s.J (k * 4)), .int .i64 (s.J (k * 4 + 1)), .int .i64 (s.J (k * 4 + 2)), .int .i64 (s.J (k * 4 + 3))] 97)).alloc (.cells #[.int .i64 (s.J (k * 4)), .int .i64 (s.J (k * 4 + 1)), .int .i64 (s.J (k * 4 + 2)), .int .i64 (s.J (k * 4 + 3))] 81)).cell? ((⟨wr.heap.size + 1, 0, none⟩ : Addr).add j) = some u := by
                  intro j u hj
                  have := World.news_of_block (heap_last2 wr (.cells #[.int .i64 (s.J (k * 4)), .int .i64 (s.J (k * 4 + 1)), .int .i64 (s.J (k * 4 + 2)), .int .i64 (s.J (k * 4 + 3))] 97) (.cells #[.int .i64 (s.J (k * 4)), .int .i64 (s.J (k * 4 + 1)), .int .i64 (s.J (k * 4 + 2)), .int .i64 (s.J (k * 4 + 3))] 81)) j u hj
                  exact this
                have hx2 : ∀ u ∈ ([.int .i64 (s.J (k * 4)), .int .i64 (s.J (k * 4 + 1)), .int .i64 (s.J (k * 4 + 2)), .int .i64 (s.J (k * 4 + 3))] : List Value), u.oneCell' = true := by intro u hu; simp at hu; rcases hu with rfl | rfl | rfl | rfl <;> rfl
                have hx3 : k + 1 ≤ maxLen := by unfold maxLen; omega
                have hx4 : (k + 1) * 32 ≤ 140737488355328 := by omega
                go_wp2_with (first | (at_builtin; go_loud (refine wpList_append_lies _ rfl _ _ 46 rfl B0 81 ij (.agg #[.int .i64 0, .int .i64 0, .int .i64 0, .int .i64 0]) 4 32 Tryz.underlying46 hij hz0j hz1j hz2j rfl (by decide) _ _ _ rfl HTB.out.rj ⟨wr.heap.size + 1, 0, none⟩ 1 1 [.int .i64 (s.J (k * 4)), .int .i64 (s.J (k * 4 + 1)), .int .i64 (s.J (k * 4 + 2)), .int .i64 (s.J (k * 4 + 3))] rfl rfl hx1 hx2 (Nat.zero_lt_one) hx3 hx4 hl3 _ rfl ?_)))
                intro g cg w2 hown hgrow hgk hlt2
                have o15 := (HTB.out.obk hgrow hrg).c15
                have fz := HTB.out.frg hgrow hrg 15
                have HZ := Lib.hid (HTB.out.stepJ (by decide) (by decide) (by decide) (by decide) (by decide) (by decide) hgrow _ rfl (by rw [fl4_step]; exact hown) (by simpa using hgk))
                clear hown hgrow hgk
                go_wp2
                go_roundw
                case rel => exact ⟨k + 1, _, by omega, by go_num, HZ⟩
                case measure => simp [intOf]; omega
              · obtain rfl : k = s.nj := by omega
                have hq2 := HT.out.l2
                have hq3 := HT.out.l3
                have hsb := HB.out.low HT.out.bl (by omega)
                have d13 := hsb.c13
                have d14 := hsb.c14
                have d15 := hsb.c15
                have d16 := hsb.c16
                simp only at d13 d14 d15 d16
                clear hsb
                go_wp2_with fail
                go_loopw [104] (fun ix wr => ∃ (k : Nat) (sv : Value), k ≤ s.ns ∧ ix = .int .i64 k ∧ Hid (ToS 74 77 81 85 W1 s q B0 s.np s.nt s.nj k pv tv jv sv wr)) (fun ix _ => s.ns - (intOf ix).toNat)
                case atStart => exact ⟨0, _, Nat.zero_le _, rfl, HT⟩
                case round =>
                  clear HT
                  obtain ⟨k, sv, hk, rfl, HT⟩ := hrel
                  by_cases hlt : k < s.ns
                  · have hlt' : (k : Int) < s.ns := by omega
                    have hww := BW.out.trans (HT.out.bl.mono (by omega))
                    obtain ⟨b, off, hba, hb, f0, f1, f2, f3, f4, f5, f6, f7, f8, f9, f10, f11, f12⟩ := nums13 (HSA.out.on hww).sh hlt
                    have hba' : sa = some ⟨b, off, none⟩ := hba
                    subst hba'
                    have hT0 := HT.out.on ((below_n1 wr (.cells #[.int .i64 (s.S (k * 13)), .int .i64 (s.S (k * 13 + 1)), .int .i64 (s.S (k * 13 + 2)), .int .i64 (s.S (k * 13 + 3)), .int .i64 (s.S (k * 13 + 4)), .int .i64 (s.S (k * 13 + 5)), .int .i64 (s.S (k * 13 + 6)), .int .i64 (s.S (k * 13 + 7)), .int .i64 (s.S (k * 13 + 8)), .int .i64 (s.S (k * 13 + 9)), .int .i64 (s.S (k * 13 + 10)), .int .i64 (s.S (k * 13 + 11)), .int .i64 (s.S (k * 13 + 12))] 103)).drew)
                    have hpq : wr.heap.size ≠ q := by have := HT.out.l2; have := HT.out.l3; omega
                    have hpb : some wr.heap.size ≠ sv.ownBlock := fun e => by have := (HT.out.rs.lt _ e.symm).2; omega
                    go_wp2_with fail
                    refine wp_region_held_drew (S := fun y => y.heap[wr.heap.size]? = some (.cells #[.int .i64 (s.S (k * 13)), .int .i64 (s.S (k * 13 + 1)), .int .i64 (s.S (k * 13 + 2)), .int .i64 (s.S (k * 13 + 3)), .int .i64 (s.S (k * 13 + 4)), .int .i64 (s.S (k * 13 + 5)), .int .i64 (s.S (k * 13 + 6)), .int .i64 (s.S (k * 13 + 7)), .int .i64 (s.S (k * 13 + 8)), .int .i64 (s.S (k * 13 + 9)), .int .i64 (s.S (k * 13 + 10)), .int .i64 (s.S (k * 13 + 11)), .int .i64 (s.S (k * 13 + 12))] 103 (0, 0))) (by kernel_rfl) (heap_alloc_last wr _) (fun hS0 => ?_)
                    obtain ⟨y0, hy0⟩ : ∃ y0, (wr.alloc (.cells #[.int .i64 (s.S (k * 13)), .int .i64 (s.S (k * 13 + 1)), .int .i64 (s.S (k * 13 + 2)), .int .i64 (s.S (k * 13 + 3)), .int .i64 (s.S (k * 13 + 4)), .int .i64 (s.S (k * 13 + 5)), .int .i64 (s.S (k * 13 + 6)), .int .i64 (s.S (k * 13 + 7)), .int .i64 (s.S (k * 13 + 8)), .int .i64 (s.S (k * 13 + 9)), .int .i64 (s.S (k * 13 + 10)), .int .i64 (s.S (k * 13 + 11)), .int .i64 (s.S (k * 13 + 12))] 103)).drew = y0 := ⟨_, rfl⟩
                    rw [hy0] at hS0 hT0 ⊢
                    clear hy0
                    refine wpAnyH_take (i := 0) (v := ?_) rfl (by kernel_rfl) (by kernel_rfl) (by kernel_rfl) (fun _ _ _ h => h) (Or.inl ⟨by kernel_rfl, by (intro wz hSz; go_simp; try with_reducible rfl)⟩) hS0 ?_
                    go_simp
                    refine wpAnyH_take (i := 2) (v := ?_) rfl (by kernel_rfl) (by kernel_rfl) (by kernel_rfl) (fun _ _ _ h => h) (Or.inl ⟨by kernel_rfl, by (intro wz hSz; go_simp; try with_reducible rfl)⟩) hS0 ?_
                    go_simp
                    refine wpAnyH_take (i := 3) (v := ?_) rfl (by kernel_rfl) (by kernel_rfl) (by kernel_rfl) (fun _ _ _ h => h) (Or.inl ⟨by kernel_rfl, by (intro wz hSz; go_simp; try with_reducible rfl)⟩) hS0 ?_
                    go_simp
                    refine wpAnyH_take (i := 4) (v := ?_) rfl (by kernel_rfl) (by kernel_rfl) (by kernel_rfl) (fun _ _ _ h => h) (Or.inl ⟨by kernel_rfl, by (intro wz hSz; have c0 := cell_of_row _ _ 0 _ _ _ hSz; have c1 := cell_of_row _ _ 1 _ _ _ hSz; have c2 := cell_of_row _ _ 2 _ _ _ hSz; have c3 := cell_of_row _ _ 3 _ _ _ hSz; have c4 := cell_of_row _ _ 4 _ _ _ hSz; have c5 := cell_of_row _ _ 5 _ _ _ hSz; have c6 := cell_of_row _ _ 6 _ _ _ hSz; have c7 := cell_of_row _ _ 7 _ _ _ hSz; have c8 := cell_of_row _ _ 8 _ _ _ hSz; have c9 := cell_of_row _ _ 9 _ _ _ hSz; have c10 := cell_of_row _ _ 10 _ _ _ hSz; have c11 := cell_of_row _ _ 11 _ _ _ hSz; have c12 := cell_of_row _ _ 12 _ _ _ hSz; simp at c0 c1 c2 c3 c4 c5 c6 c7 c8 c9 c10 c11 c12; go_simp; try with_reducible rfl)⟩) hS0 ?_
                    go_simp
                    refine wpAnyH_take (i := 5) (v := ?_) rfl (by kernel_rfl) (by kernel_rfl) (by kernel_rfl) (fun _ _ _ h => h) (Or.inl ⟨by kernel_rfl, by (intro wz hSz; go_simp; try with_reducible rfl)⟩) hS0 ?_
                    go_simp
                    refine wpAnyH_take (i := 6) (v := ?_) rfl (by kernel_rfl) (by kernel_rfl) (by kernel_rfl) (fun _ _ _ h => h) (Or.inl ⟨by kernel_rfl, by (intro wz hSz; go_simp; try with_reducible rfl)⟩) hS0 ?_
                    go_simp
                    refine wpAnyH_take (i := 7) (v := ?_) rfl (by kernel_rfl) (by kernel_rfl) (by kernel_rfl) (fun _ _ _ h => h) (Or.inl ⟨by kernel_rfl, by (intro wz hSz; have c0 := cell_of_row _ _ 0 _ _ _ hSz; have c1 := cell_of_row _ _ 1 _ _ _ hSz; have c2 := cell_of_row _ _ 2 _ _ _ hSz; have c3 := cell_of_row _ _ 3 _ _ _ hSz; have c4 := cell_of_row _ _ 4 _ _ _ hSz; have c5 := cell_of_row _ _ 5 _ _ _ hSz; have c6 := cell_of_row _ _ 6 _ _ _ hSz; have c7 := cell_of_row _ _ 7 _ _ _ hSz; have c8 := cell_of_row _ _ 8 _ _ _ hSz; have c9 := cell_of_row _ _ 9 _ _ _ hSz; have c10 := cell_of_row _ _ 10 _ _ _ hSz; have c11 := cell_of_row _ _ 11 _ _ _ hSz; have c12 := cell_of_row _ _ 12 _ _ _ hSz; simp at c0 c1 c2 c3 c4 c5 c6 c7 c8 c9 c10 c11 c12; go_simp; try with_reducible rfl)⟩) hS0 ?_
                    go_simp
                    refine wpAnyH_take (i := 8) (v := ?_) rfl (by kernel_rfl) (by kernel_rfl) (by kernel_rfl) (fun _ _ _ h => h) (Or.inl ⟨by kernel_rfl, by (intro wz hSz; go_simp; try with_reducible rfl)⟩) hS0 ?_
                    go_simp
                    refine wpAnyH_take (i := 9) (v := ?_) rfl (by kernel_rfl) (by kernel_rfl) (by kernel_rfl) (fun _ _ _ h => h) (Or.inl ⟨by kernel_rfl, by (intro wz hSz; have c0 := cell_of_row _ _ 0 _ _ _ hSz; have c1 := cell_of_row _ _ 1 _ _ _ hSz; have c2 := cell_of_row _ _ 2 _ _ _ hSz; have c3 := cell_of_row _ _ 3 _ _ _ hSz; have c4 := cell_of_row _ _ 4 _ _ _ hSz; have c5 := cell_of_row _ _ 5 _ _ _ hSz; have c6 := cell_of_row _ _ 6 _ _ _ hSz; have c7 := cell_of_row _ _ 7 _ _ _ hSz; have c8 := cell_of_row _ _ 8 _ _ _ hSz; have c9 := cell_of_row _ _ 9 _ _ _ hSz; have c10 := cell_of_row _ _ 10 _ _ _ hSz; have c11 := cell_of_row _ _ 11 _ _ _ hSz; have c12 := cell_of_row _ _ 12 _ _ _ hSz; simp at c0 c1 c2 c3 c4 c5 c6 c7 c8 c9 c10 c11 c12; go_simp; try with_reducible rfl)⟩) hS0 ?_
                    go_simp
                    refine wpAnyH_take (i := 10) (v := ?_) rfl (by kernel_rfl) (by kernel_rfl) (by kernel_rfl) (fun _ _ _ h => h) (Or.inl ⟨by kernel_rfl, by (intro wz hSz; go_simp; try with_reducible rfl)⟩) hS0 ?_
                    go_simp
                    refine wpAnyH_take (i := 11) (v := ?_) rfl (by kernel_rfl) (by kernel_rfl) (by kernel_rfl) (fun _ _ _ h => h) (Or.inl ⟨by kernel_rfl, by (intro wz hSz; have c0 := cell_of_row _ _ 0 _ _ _ hSz; have c1 := cell_of_row _ _ 1 _ _ _ hSz; have c2 := cell_of_row _ _ 2 _ _ _ hSz; have c3 := cell_of_row _ _ 3 _ _ _ hSz; have c4 := cell_of_row _ _ 4 _ _ _ hSz; have c5 := cell_of_row _ _ 5 _ _ _ hSz; have c6 := cell_of_row _ _ 6 _ _ _ hSz; have c7 := cell_of_row _ _ 7 _ _ _ hSz; have c8 := cell_of_row _ _ 8 _ _ _ hSz; have c9 := cell_of_row _ _ 9 _ _ _ hSz; have c10 := cell_of_row _ _ 10 _ _ _ hSz; have c11 := cell_of_row _ _ 11 _ _ _ hSz; have c12 := cell_of_row _ _ 12 _ _ _ hSz; simp at c0 c1 c2 c3 c4 c5 c6 c7 c8 c9 c10 c11 c12; go_simp; try with_reducible rfl)⟩) hS0 ?_
                    go_simp
                    refine wpAnyH_take (i := 13) (v := ?_) rfl (by kernel_rfl) (by kernel_rfl) (by kernel_rfl) (fun _ _ _ h => h) (Or.inl ⟨by kernel_rfl, by (intro wz hSz; go_simp; try with_reducible rfl)⟩) hS0 ?_
                    go_simp
                    refine wpAnyH_take (i := 14) (v := ?_) rfl (by kernel_rfl) (by kernel_rfl) (by kernel_rfl) (fun _ _ _ h => h) (Or.inl ⟨by kernel_rfl, by (intro wz hSz; have c0 := cell_of_row _ _ 0 _ _ _ hSz; have c1 := cell_of_row _ _ 1 _ _ _ hSz; have c2 := cell_of_row _ _ 2 _ _ _ hSz; have c3 := cell_of_row _ _ 3 _ _ _ hSz; have c4 := cell_of_row _ _ 4 _ _ _ hSz; have c5 := cell_of_row _ _ 5 _ _ _ hSz; have c6 := cell_of_row _ _ 6 _ _ _ hSz; have c7 := cell_of_row _ _ 7 _ _ _ hSz; have c8 := cell_of_row _ _ 8 _ _ _ hSz; have c9 := cell_of_row _ _ 9 _ _ _ hSz; have c10 := cell_of_row _ _ 10 _ _ _ hSz; have c11 := cell_of_row _ _ 11 _ _ _ hSz; have c12 := cell_of_row _ _ 12 _ _ _ hSz; simp at c0 c1 c2 c3 c4 c5 c6 c7 c8 c9 c10 c11 c12; go_simp; try with_reducible rfl)⟩) hS0 ?_
                    go_simp
                    refine wpAnyH_take (i := 16) (v := ?_) rfl (by kernel_rfl) (by kernel_rfl) (by kernel_rfl) (fun _ _ _ h => h) (Or.inl ⟨by kernel_rfl, by (intro wz hSz; go_simp; try with_reducible rfl)⟩) hS0 ?_
                    go_simp
                    refine wpAnyH_take (i := 17) (v := ?_) rfl (by kernel_rfl) (by kernel_rfl) (by kernel_rfl) (fun _ _ _ h => h) (Or.inl ⟨by kernel_rfl, by (intro wz hSz; have c0 := cell_of_row _ _ 0 _ _ _ hSz; have c1 := cell_of_row _ _ 1 _ _ _ hSz; have c2 := cell_of_row _ _ 2 _ _ _ hSz; have c3 := cell_of_row _ _ 3 _ _ _ hSz; have c4 := cell_of_row _ _ 4 _ _ _ hSz; have c5 := cell_of_row _ _ 5 _ _ _ hSz; have c6 := cell_of_row _ _ 6 _ _ _ hSz; have c7 := cell_of_row _ _ 7 _ _ _ hSz; have c8 := cell_of_row _ _ 8 _ _ _ hSz; have c9 := cell_of_row _ _ 9 _ _ _ hSz; have c10 := cell_of_row _ _ 10 _ _ _ hSz; have c11 := cell_of_row _ _ 11 _ _ _ hSz; have c12 := cell_of_row _ _ 12 _ _ _ hSz; simp at c0 c1 c2 c3 c4 c5 c6 c7 c8 c9 c10 c11 c12; go_simp; try with_reducible rfl)⟩) hS0 ?_
                    go_simp
                    refine wpAnyH_take (i := 20) (v := ?_) rfl (by kernel_rfl) (by kernel_rfl) (by kernel_rfl) (fun _ _ _ h => h) (Or.inl ⟨by kernel_rfl, by (intro wz hSz; go_simp; try with_reducible rfl)⟩) hS0 ?_
                    go_simp
                    refine wpAnyH_take (i := 21) (v := ?_) rfl (by kernel_rfl) (by kernel_rfl) (by kernel_rfl) (fun _ _ _ h => h) (Or.inl ⟨by kernel_rfl, by (intro wz hSz; have c0 := cell_of_row _ _ 0 _ _ _ hSz; have c1 := cell_of_row _ _ 1 _ _ _ hSz; have c2 := cell_of_row _ _ 2 _ _ _ hSz; have c3 := cell_of_row _ _ 3 _ _ _ hSz; have c4 := cell_of_row _ _ 4 _ _ _ hSz; have c5 := cell_of_row _ _ 5 _ _ _ hSz; have c6 := cell_of_row _ _ 6 _ _ _ hSz; have c7 := cell_of_row _ _ 7 _ _ _ hSz; have c8 := cell_of_row _ _ 8 _ _ _ hSz; have c9 := cell_of_row _ _ 9 _ _ _ hSz; have c10 := cell_of_row _ _ 10 _ _ _ hSz; have c11 := cell_of_row _ _ 11 _ _ _ hSz; have c12 := cell_of_row _ _ 12 _ _ _ hSz; simp at c0 c1 c2 c3 c4 c5 c6 c7 c8 c9 c10 c11 c12; go_simp; try with_reducible rfl)⟩) hS0 ?_
                    go_simp
                    refine wpAnyH_ready (rs := [1, 12]) (by kernel_rfl) (by simp) ?_
                    refine AllReadyH.cons rfl (fun K hK => ?_) (AllReadyH.cons rfl (fun K hK => ?_) AllReadyH.nil)
                    · skip
                      have o16 := hT0.ob.c16
                      go_simp
                      refine hK.out _ _ (hS0) (fun hS0l => ?_)
                      clear hK K
                      refine wpAnyH_ready (rs := [12]) (by kernel_rfl) (by simp) ?_
                      refine AllReadyH.cons rfl (fun K hK => ?_) AllReadyH.nil
                      go_simp
                      go_wp2_with (go_at_call 23; refine (vfrom_any _ _ _ _).mono ?_; rintro e y1 ⟨rfl, hb1⟩)
                      have hT1 := hT0.on hb1
                      refine hK.out _ _ ((hb1.block _ (lt_heap hS0l)).trans hS0l) (fun hS1 => ?_)
                      clear hK K
                      refine wpAnyH_ready (rs := [15]) (by kernel_rfl) (by simp) ?_
                      refine AllReadyH.cons rfl (fun K hK => ?_) AllReadyH.nil
                      go_simp
                      go_wp2_with (go_at_call 23; refine (vfrom_any _ _ _ _).mono ?_; rintro e y2 ⟨rfl, hb2⟩)
                      have hT2 := hT1.on hb2
                      refine hK.out _ _ ((hb2.block _ (lt_heap hS1)).trans hS1) (fun hS2 => ?_)
                      clear hK K
                      refine wpAnyH_ready (rs := [18]) (by kernel_rfl) (by simp) ?_
                      refine AllReadyH.cons rfl (fun K hK => ?_) AllReadyH.nil
                      go_simp
                      go_wp2_with (go_at_call 23; refine (vfrom_any _ _ _ _).mono ?_; rintro e y3 ⟨rfl, hb3⟩)
                      have hT3 := hT2.on hb3
                      refine hK.out _ _ ((hb3.block _ (lt_heap hS2)).trans hS2) (fun hS3 => ?_)
                      clear hK K
                      refine wpAnyH_take (i := 19) (v := ?_) rfl (by kernel_rfl) (by kernel_rfl) (by kernel_rfl) (fun _ _ _ h => h) (Or.inl ⟨by kernel_rfl, by (intro wz hSz; go_simp; try with_reducible rfl)⟩) hS3 ?_
                      go_simp
                      refine wpAnyH_take (i := 22) (v := ?_) rfl (by kernel_rfl) (by kernel_rfl) (by kernel_rfl) (fun _ _ _ h => h) (Or.inl ⟨by kernel_rfl, by (intro wz hSz; go_simp; try with_reducible rfl)⟩) hS3 ?_
                      go_simp
                      refine wpAnyH_ready (rs := [23]) (by kernel_rfl) (by simp) ?_
                      refine AllReadyH.cons rfl (fun K hK => ?_) AllReadyH.nil
                      go_simp
                      have hTB := hT3.on (below_n1 y3 (.cells #[.int .i64 (s.S (k * 13)), .int .i64 (s.S (k * 13 + 1)), .int .i64 (s.S (k * 13 + 2)), .int .i64 (s.S (k * 13 + 3)), .int .i64 (s.S (k * 13 + 4)), .int .i64 (s.S (k * 13 + 5)), .int .i64 (s.S (k * 13 + 6)), .int .i64 (s.S (k * 13 + 7)), .int .i64 (s.S (k * 13 + 8)), .int .i64 (s.S (k * 13 + 9)), .int .i64 (s.S (k * 13 + 10)), .int .i64 (s.S (k * 13 + 11)), .int .i64 (s.S (k * 13 + 12))] 85))
                      refine hK.out _ _ (((below_n1 y3 (.cells #[.int .i64 (s.S (k * 13)), .int .i64 (s.S (k * 13 + 1)), .int .i64 (s.S (k * 13 + 2)), .int .i64 (s.S (k * 13 + 3)), .int .i64 (s.S (k * 13 + 4)), .int .i64 (s.S (k * 13 + 5)), .int .i64 (s.S (k * 13 + 6)), .int .i64 (s.S (k * 13 + 7)), .int .i64 (s.S (k * 13 + 8)), .int .i64 (s.S (k * 13 + 9)), .int .i64 (s.S (k * 13 + 10)), .int .i64 (s.S (k * 13 + 11)), .int .i64 (s.S (k * 13 + 12))] 85)).block _ (lt_heap hS3)).trans hS3) (fun hSB => ?_)
                      clear hK K
                      refine wpAnyH_ready (rs := [24]) (by kernel_rfl) (by simp) ?_
                      refine AllReadyH.cons rfl (fun K hK => ?_) AllReadyH.nil
                      have hl3 := hTB.l3
                      have hrg := own_ge hTB.rs
                      refine step_append_lies _ rfl _ _ 47 rfl B0 85 is (.agg #[.int .i64 0, .int .i64 0, .int .i64 0, .int .i64 0, .int .i64 0, .int .i64 0, .int .i64 0, .int .i64 0, .int .i64 0, .int .i64 0, .int .i64 0, .int .i64 0, .int .i64 0]) 13 104 Tryz.underlying47 his hz0s hz1s hz2s rfl (by decide) _ _ _ rfl hTB.rs ⟨y3.heap.size, 0, none⟩ 1 1 [.int .i64 (s.S (k * 13)), .int .i64 (s.S (k * 13 + 1)), .int .i64 (s.S (k * 13 + 2)), .int .i64 (s.S (k * 13 + 3)), .int .i64 (s.S (k * 13 + 4)), .int .i64 (s.S (k * 13 + 5)), .int .i64 (s.S (k * 13 + 6)), .int .i64 (s.S (k * 13 + 7)), .int .i64 (s.S (k * 13 + 8)), .int .i64 (s.S (k * 13 + 9)), .int .i64 (s.S (k * 13 + 10)), .int .i64 (s.S (k * 13 + 11)), .int .i64 (s.S (k * 13 + 12))] rfl rfl ?c1 ?c2 (by omega) ?c3 ?c4 ?c5 _ rfl ?_
                      case c1 =>
                        intro j u hj
                        match j, hj with
                        | 0, hj => simp at hj; subst hj; simp [Addr.add]
                        | 1, hj => simp at hj; subst hj; simp [Addr.add]
                        | 2, hj => simp at hj; subst hj; simp [Addr.add]
                        | 3, hj => simp at hj; subst hj; simp [Addr.add]
                        | 4, hj => simp at hj; subst hj; simp [Addr.add]
                        | 5, hj => simp at hj; subst hj; simp [Addr.add]
                        | 6, hj => simp at hj; subst hj; simp [Addr.add]
                        | 7, hj => simp at hj; subst hj; simp [Addr.add]
                        | 8, hj => simp at hj; subst hj; simp [Addr.add]
                        | 9, hj => simp at hj; subst hj; simp [Addr.add]
                        | 10, hj => simp at hj; subst hj; simp [Addr.add]
                        | 11, hj => simp at hj; subst hj; simp [Addr.add]
                        | 12, hj => simp at hj; subst hj; simp [Addr.add]
                      case c2 => intro u hu; simp at hu; rcases hu with rfl | rfl | rfl | rfl | rfl | rfl | rfl | rfl | rfl | rfl | rfl | rfl | rfl <;> rfl
                      case c3 => unfold maxLen; omega
                      case c4 => omega
                      case c5 => exact hl3
                      intro g cg w2 hown hgrow hgk hlt2
                      refine hK.out _ _ ((hgrow.block _ (lt_heap hSB) hpb).trans hSB) (fun hSA => ?_)
                      clear hK K
                      refine wpAnyH_take (i := 25) (v := ?_) rfl (by kernel_rfl) (by kernel_rfl) (by kernel_rfl) (fun _ _ _ h => h) (Or.inl ⟨by kernel_rfl, by (intro wz hSz; go_simp; try with_reducible rfl)⟩) hSA ?_
                      go_simp
                      refine wpAnyH_ready (rs := [26]) (by kernel_rfl) (by simp) ?_
                      refine AllReadyH.cons rfl (fun K hK => ?_) AllReadyH.nil
                      have o16 := (hTB.obk hgrow hrg).c16
                      have fz := hTB.frg hgrow hrg 16
                      go_simp
                      refine hK.out _ _ ((Below.heap_setCell _ _ _ _ hpq).trans hSA) (fun hSZ => ?_)
                      clear hK K
                      refine wpAnyH_done (by kernel_rfl) ?_ _
                      have hZ := hTB.stepS (by decide) (by decide) (by decide) (by decide) (by decide) (by decide) hgrow _ rfl (by rw [fl13_step]; exact hown) hgk
                      go_wp2
                      go_roundw
                      case rel => exact ⟨k + 1, _, by omega, by go_num, Lib.hid hZ⟩
                      case measure => simp [intOf]; omega
                    · skip
                      go_simp
                      go_wp2_with (go_at_call 23; refine (vfrom_any _ _ _ _).mono ?_; rintro e y1 ⟨rfl, hb1⟩)
                      have hT1 := hT0.on hb1
                      refine hK.out _ _ ((hb1.block _ (lt_heap hS0)).trans hS0) (fun hS1 => ?_)
                      clear hK K
                      refine wpAnyH_ready (rs := [1, 15]) (by kernel_rfl) (by simp) ?_
                      refine AllReadyH.cons rfl (fun K hK => ?_) (AllReadyH.cons rfl (fun K hK => ?_) AllReadyH.nil)
                      · skip
                        have o16 := hT1.ob.c16
                        go_simp
                        refine hK.out _ _ (hS1) (fun hS1l => ?_)
                        clear hK K
                        refine wpAnyH_ready (rs := [15]) (by kernel_rfl) (by simp) ?_
                        refine AllReadyH.cons rfl (fun K hK => ?_) AllReadyH.nil
                        go_simp
                        go_wp2_with (go_at_call 23; refine (vfrom_any _ _ _ _).mono ?_; rintro e y2 ⟨rfl, hb2⟩)
                        have hT2 := hT1.on hb2
                        refine hK.out _ _ ((hb2.block _ (lt_heap hS1l)).trans hS1l) (fun hS2 => ?_)
                        clear hK K
                        refine wpAnyH_ready (rs := [18]) (by kernel_rfl) (by simp) ?_
                        refine AllReadyH.cons rfl (fun K hK => ?_) AllReadyH.nil
                        go_simp
                        go_wp2_with (go_at_call 23; refine (vfrom_any _ _ _ _).mono ?_; rintro e y3 ⟨rfl, hb3⟩)
                        have hT3 := hT2.on hb3
                        refine hK.out _ _ ((hb3.block _ (lt_heap hS2)).trans hS2) (fun hS3 => ?_)
                        clear hK K
                        refine wpAnyH_take (i := 19) (v := ?_) rfl (by kernel_rfl) (by kernel_rfl) (by kernel_rfl) (fun _ _ _ h => h) (Or.inl ⟨by kernel_rfl, by (intro wz hSz; go_simp; try with_reducible rfl)⟩) hS3 ?_
                        go_simp
                        refine wpAnyH_take (i := 22) (v := ?_) rfl (by kernel_rfl) (by kernel_rfl) (by kernel_rfl) (fun _ _ _ h => h) (Or.inl ⟨by kernel_rfl, by (intro wz hSz; go_simp; try with_reducible rfl)⟩) hS3 ?_
                        go_simp
                        refine wpAnyH_ready (rs := [23]) (by kernel_rfl) (by simp) ?_
                        refine AllReadyH.cons rfl (fun K hK => ?_) AllReadyH.nil
                        go_simp
                        have hTB := hT3.on (below_n1 y3 (.cells #[.int .i64 (s.S (k * 13)), .int .i64 (s.S (k * 13 + 1)), .int .i64 (s.S (k * 13 + 2)), .int .i64 (s.S (k * 13 + 3)), .int .i64 (s.S (k * 13 + 4)), .int .i64 (s.S (k * 13 + 5)), .int .i64 (s.S (k * 13 + 6)), .int .i64 (s.S (k * 13 + 7)), .int .i64 (s.S (k * 13 + 8)), .int .i64 (s.S (k * 13 + 9)), .int .i64 (s.S (k * 13 + 10)), .int .i64 (s.S (k * 13 + 11)), .int .i64 (s.S (k * 13 + 12))] 85))
                        refine hK.out _ _ (((below_n1 y3 (.cells #[.int .i64 (s.S (k * 13)), .int .i64 (s.S (k * 13 + 1)), .int .i64 (s.S (k * 13 + 2)), .int .i64 (s.S (k * 13 + 3)), .int .i64 (s.S (k * 13 + 4)), .int .i64 (s.S (k * 13 + 5)), .int .i64 (s.S (k * 13 + 6)), .int .i64 (s.S (k * 13 + 7)), .int .i64 (s.S (k * 13 + 8)), .int .i64 (s.S (k * 13 + 9)), .int .i64 (s.S (k * 13 + 10)), .int .i64 (s.S (k * 13 + 11)), .int .i64 (s.S (k * 13 + 12))] 85)).block _ (lt_heap hS3)).trans hS3) (fun hSB => ?_)
                        clear hK K
                        refine wpAnyH_ready (rs := [24]) (by kernel_rfl) (by simp) ?_
                        refine AllReadyH.cons rfl (fun K hK => ?_) AllReadyH.nil
                        have hl3 := hTB.l3
                        have hrg := own_ge hTB.rs
                        refine step_append_lies _ rfl _ _ 47 rfl B0 85 is (.agg #[.int .i64 0, .int .i64 0, .int .i64 0, .int .i64 0, .int .i64 0, .int .i64 0, .int .i64 0, .int .i64 0, .int .i64 0, .int .i64 0, .int .i64 0, .int .i64 0, .int .i64 0]) 13 104 Tryz.underlying47 his hz0s hz1s hz2s rfl (by decide) _ _ _ rfl hTB.rs ⟨y3.heap.size, 0, none⟩ 1 1 [.int .i64 (s.S (k * 13)), .int .i64 (s.S (k * 13 + 1)), .int .i64 (s.S (k * 13 + 2)), .int .i64 (s.S (k * 13 + 3)), .int .i64 (s.S (k * 13 + 4)), .int .i64 (s.S (k * 13 + 5)), .int .i64 (s.S (k * 13 + 6)), .int .i64 (s.S (k * 13 + 7)), .int .i64 (s.S (k * 13 + 8)), .int .i64 (s.S (k * 13 + 9)), .int .i64 (s.S (k * 13 + 10)), .int .i64 (s.S (k * 13 + 11)), .int .i64 (s.S (k * 13 + 12))] rfl rfl ?c1 ?c2 (by omega) ?c3 ?c4 ?c5 _ rfl ?_
                        case c1 =>
                          intro j u hj
                          match j, hj with
                          | 0, hj => simp at hj; subst hj; simp [Addr.add]
                          | 1, hj => simp at hj; subst hj; simp [Addr.add]
                          | 2, hj => simp at hj; subst hj; simp [Addr.add]
                          | 3, hj => simp at hj; subst hj; simp [Addr.add]
                          | 4, hj => simp at hj; subst hj; simp [Addr.add]
                          | 5, hj => simp at hj; subst hj; simp [Addr.add]
                          | 6, hj => simp at hj; subst hj; simp [Addr.add]
                          | 7, hj => simp at hj; subst hj; simp [Addr.add]
                          | 8, hj => simp at hj; subst hj; simp [Addr.add]
                          | 9, hj => simp at hj; subst hj; simp [Addr.add]
                          | 10, hj => simp at hj; subst hj; simp [Addr.add]
                          | 11, hj => simp at hj; subst hj; simp [Addr.add]
                          | 12, hj => simp at hj; subst hj; simp [Addr.add]
                        case c2 => intro u hu; simp at hu; rcases hu with rfl | rfl | rfl | rfl | rfl | rfl | rfl | rfl | rfl | rfl | rfl | rfl | rfl <;> rfl
                        case c3 => unfold maxLen; omega
                        case c4 => omega
                        case c5 => exact hl3
                        intro g cg w2 hown hgrow hgk hlt2
                        refine hK.out _ _ ((hgrow.block _ (lt_heap hSB) hpb).trans hSB) (fun hSA => ?_)
                        clear hK K
                        refine wpAnyH_take (i := 25) (v := ?_) rfl (by kernel_rfl) (by kernel_rfl) (by kernel_rfl) (fun _ _ _ h => h) (Or.inl ⟨by kernel_rfl, by (intro wz hSz; go_simp; try with_reducible rfl)⟩) hSA ?_
                        go_simp
                        refine wpAnyH_ready (rs := [26]) (by kernel_rfl) (by simp) ?_
                        refine AllReadyH.cons rfl (fun K hK => ?_) AllReadyH.nil
                        have o16 := (hTB.obk hgrow hrg).c16
                        have fz := hTB.frg hgrow hrg 16
                        go_simp
                        refine hK.out _ _ ((Below.heap_setCell _ _ _ _ hpq).trans hSA) (fun hSZ => ?_)
                        clear hK K
                        refine wpAnyH_done (by kernel_rfl) ?_ _
                        have hZ := hTB.stepS (by decide) (by decide) (by decide) (by decide) (by decide) (by decide) hgrow _ rfl (by rw [fl13_step]; exact hown) hgk
                        go_wp2
                        go_roundw
                        case rel => exact ⟨k + 1, _, by omega, by go_num, Lib.hid hZ⟩
                        case measure => simp [intOf]; omega
                      · skip
                        go_simp
                        go_wp2_with (go_at_call 23; refine (vfrom_any _ _ _ _).mono ?_; rintro e y2 ⟨rfl, hb2⟩)
                        have hT2 := hT1.on hb2
                        refine hK.out _ _ ((hb2.block _ (lt_heap hS1)).trans hS1) (fun hS2 => ?_)
                        clear hK K
                        refine wpAnyH_ready (rs := [1, 18]) (by kernel_rfl) (by simp) ?_
                        refine AllReadyH.cons rfl (fun K hK => ?_) (AllReadyH.cons rfl (fun K hK => ?_) AllReadyH.nil)
                        · skip
                          have o16 := hT2.ob.c16
                          go_simp
                          refine hK.out _ _ (hS2) (fun hS2l => ?_)
                          clear hK K
                          refine wpAnyH_ready (rs := [18]) (by kernel_rfl) (by simp) ?_
                          refine AllReadyH.cons rfl (fun K hK => ?_) AllReadyH.nil
                          go_simp
                          go_wp2_with (go_at_call 23; refine (vfrom_any _ _ _ _).mono ?_; rintro e y3 ⟨rfl, hb3⟩)
                          have hT3 := hT2.on hb3
                          refine hK.out _ _ ((hb3.block _ (lt_heap hS2l)).trans hS2l) (fun hS3 => ?_)
                          clear hK K
                          refine wpAnyH_take (i := 19) (v := ?_) rfl (by kernel_rfl) (by kernel_rfl) (by kernel_rfl) (fun _ _ _ h => h) (Or.inl ⟨by kernel_rfl, by (intro wz hSz; go_simp; try with_reducible rfl)⟩) hS3 ?_
                          go_simp
                          refine wpAnyH_take (i := 22) (v := ?_) rfl (by kernel_rfl) (by kernel_rfl) (by kernel_rfl) (fun _ _ _ h => h) (Or.inl ⟨by kernel_rfl, by (intro wz hSz; go_simp; try with_reducible rfl)⟩) hS3 ?_
                          go_simp
                          refine wpAnyH_ready (rs := [23]) (by kernel_rfl) (by simp) ?_
                          refine AllReadyH.cons rfl (fun K hK => ?_) AllReadyH.nil
                          go_simp
                          have hTB := hT3.on (below_n1 y3 (.cells #[.int .i64 (s.S (k * 13)), .int .i64 (s.S (k * 13 + 1)), .int .i64 (s.S (k * 13 + 2)), .int .i64 (s.S (k * 13 + 3)), .int .i64 (s.S (k * 13 + 4)), .int .i64 (s.S (k * 13 + 5)), .int .i64 (s.S (k * 13 + 6)), .int .i64 (s.S (k * 13 + 7)), .int .i64 (s.S (k * 13 + 8)), .int .i64 (s.S (k * 13 + 9)), .int .i64 (s.S (k * 13 + 10)), .int .i64 (s.S (k * 13 + 11)), .int .i64 (s.S (k * 13 + 12))] 85))
                          refine hK.out _ _ (((below_n1 y3 (.cells #[.int .i64 (s.S (k * 13)), .int .i64 (s.S (k * 13 + 1)), .int .i64 (s.S (k * 13 + 2)), .int .i64 (s.S (k * 13 + 3)), .int .i64 (s.S (k * 13 + 4)), .int .i64 (s.S (k * 13 + 5)), .int .i64 (s.S (k * 13 + 6)), .int .i64 (s.S (k * 13 + 7)), .int .i64 (s.S (k * 13 + 8)), .int .i64 (s.S (k * 13 + 9)), .int .i64 (s.S (k * 13 + 10)), .int .i64 (s.S (k * 13 + 11)), .int .i64 (s.S (k * 13 + 12))] 85)).block _ (lt_heap hS3)).trans hS3) (fun hSB => ?_)
                          clear hK K
                          refine wpAnyH_ready (rs := [24]) (by kernel_rfl) (by simp) ?_
                          refine AllReadyH.cons rfl (fun K hK => ?_) AllReadyH.nil
                          have hl3 := hTB.l3
                          have hrg := own_ge hTB.rs
                          refine step_append_lies _ rfl _ _ 47 rfl B0 85 is (.agg #[.int .i64 0, .int .i64 0, .int .i64 0, .int .i64 0, .int .i64 0, .int .i64 0, .int .i64 0, .int .i64 0, .int .i64 0, .int .i64 0, .int .i64 0, .int .i64 0, .int .i64 0]) 13 104 Tryz.underlying47 his hz0s hz1s hz2s rfl (by decide) _ _ _ rfl hTB.rs ⟨y3.heap.size, 0, none⟩ 1 1 [.int .i64 (s.S (k * 13)), .int .i64 (s.S (k * 13 + 1)), .int .i64 (s.S (k * 13 + 2)), .int .i64 (s.S (k * 13 + 3)), .int .i64 (s.S (k * 13 + 4)), .int .i64 (s.S (k * 13 + 5)), .int .i64 (s.S (k * 13 + 6)), .int .i64 (s.S (k * 13 + 7)), .int .i64 (s.S (k * 13 + 8)), .int .i64 (s.S (k * 13 + 9)), .int .i64 (s.S (k * 13 + 10)), .int .i64 (s.S (k * 13 + 11)), .int .i64 (s.S (k * 13 + 12))] rfl rfl ?c1 ?c2 (by omega) ?c3 ?c4 ?c5 _ rfl ?_
                          case c1 =>
                            intro j u hj
                            match j, hj with
                            | 0, hj => simp at hj; subst hj; simp [Addr.add]
                            | 1, hj => simp at hj; subst hj; simp [Addr.add]
                            | 2, hj => simp at hj; subst hj; simp [Addr.add]
                            | 3, hj => simp at hj; subst hj; simp [Addr.add]
                            | 4, hj => simp at hj; subst hj; simp [Addr.add]
                            | 5, hj => simp at hj; subst hj; simp [Addr.add]
                            | 6, hj => simp at hj; subst hj; simp [Addr.add]
                            | 7, hj => simp at hj; subst hj; simp [Addr.add]
                            | 8, hj => simp at hj; subst hj; simp [Addr.add]
                            | 9, hj => simp at hj; subst hj; simp [Addr.add]
                            | 10, hj => simp at hj; subst hj; simp [Addr.add]
                            | 11, hj => simp at hj; subst hj; simp [Addr.add]
                            | 12, hj => simp at hj; subst hj; simp [Addr.add]
                          case c2 => intro u hu; simp at hu; rcases hu with rfl | rfl | rfl | rfl | rfl | rfl | rfl | rfl | rfl | rfl | rfl | rfl | rfl <;> rfl
                          case c3 => unfold maxLen; omega
                          case c4 => omega
                          case c5 => exact hl3
                          intro g cg w2 hown hgrow hgk hlt2
                          refine hK.out _ _ ((hgrow.block _ (lt_heap hSB) hpb).trans hSB) (fun hSA => ?_)
                          clear hK K
                          refine wpAnyH_take (i := 25) (v := ?_) rfl (by kernel_rfl) (by kernel_rfl) (by kernel_rfl) (fun _ _ _ h => h) (Or.inl ⟨by kernel_rfl, by (intro wz hSz; go_simp; try with_reducible rfl)⟩) hSA ?_
                          go_simp
                          refine wpAnyH_ready (rs := [26]) (by kernel_rfl) (by simp) ?_
                          refine AllReadyH.cons rfl (fun K hK => ?_) AllReadyH.nil
                          have o16 := (hTB.obk hgrow hrg).c16
                          have fz := hTB.frg hgrow hrg 16
                          go_simp
                          refine hK.out _ _ ((Below.heap_setCell _ _ _ _ hpq).trans hSA) (fun hSZ => ?_)
                          clear hK K
                          refine wpAnyH_done (by kernel_rfl) ?_ _
                          have hZ := hTB.stepS (by decide) (by decide) (by decide) (by decide) (by decide) (by decide) hgrow _ rfl (by rw [fl13_step]; exact hown) hgk
                          go_wp2
                          go_roundw
                          case rel => exact ⟨k + 1, _, by omega, by go_num, Lib.hid hZ⟩
                          case measure => simp [intOf]; omega
                        · skip
                          go_simp
                          go_wp2_with (go_at_call 23; refine (vfrom_any _ _ _ _).mono ?_; rintro e y3 ⟨rfl, hb3⟩)
                          have hT3 := hT2.on hb3
                          refine hK.out _ _ ((hb3.block _ (lt_heap hS2)).trans hS2) (fun hS3 => ?_)
                          clear hK K
                          refine wpAnyH_take (i := 19) (v := ?_) rfl (by kernel_rfl) (by kernel_rfl) (by kernel_rfl) (fun _ _ _ h => h) (Or.inl ⟨by kernel_rfl, by (intro wz hSz; go_simp; try with_reducible rfl)⟩) hS3 ?_
                          go_simp
                          refine wpAnyH_take (i := 22) (v := ?_) rfl (by kernel_rfl) (by kernel_rfl) (by kernel_rfl) (fun _ _ _ h => h) (Or.inl ⟨by kernel_rfl, by (intro wz hSz; go_simp; try with_reducible rfl)⟩) hS3 ?_
                          go_simp
                          refine wpAnyH_ready (rs := [1, 23]) (by kernel_rfl) (by simp) ?_
                          refine AllReadyH.cons rfl (fun K hK => ?_) (AllReadyH.cons rfl (fun K hK => ?_) AllReadyH.nil)
                          · skip
                            have o16 := hT3.ob.c16
                            go_simp
                            refine hK.out _ _ (hS3) (fun hS3l => ?_)
                            clear hK K
                            refine wpAnyH_ready (rs := [23]) (by kernel_rfl) (by simp) ?_
                            refine AllReadyH.cons rfl (fun K hK => ?_) AllReadyH.nil
                            go_simp
                            have hTB := hT3.on (below_n1 y3 (.cells #[.int .i64 (s.S (k * 13)), .int .i64 (s.S (k * 13 + 1)), .int .i64 (s.S (k * 13 + 2)), .int .i64 (s.S (k * 13 + 3)), .int .i64 (s.S (k * 13 + 4)), .int .i64 (s.S (k * 13 + 5)), .int .i64 (s.S (k * 13 + 6)), .int .i64 (s.S (k * 13 + 7)), .int .i64 (s.S (k * 13 + 8)), .int .i64 (s.S (k * 13 + 9)), .int .i64 (s.S (k * 13 + 10)), .int .i64 (s.S (k * 13 + 11)), .int .i64 (s.S (k * 13 + 12))] 85))
                            refine hK.out _ _ (((below_n1 y3 (.cells #[.int .i64 (s.S (k * 13)), .int .i64 (s.S (k * 13 + 1)), .int .i64 (s.S (k * 13 + 2)), .int .i64 (s.S (k * 13 + 3)), .int .i64 (s.S (k * 13 + 4)), .int .i64 (s.S (k * 13 + 5)), .int .i64 (s.S (k * 13 + 6)), .int .i64 (s.S (k * 13 + 7)), .int .i64 (s.S (k * 13 + 8)), .int .i64 (s.S (k * 13 + 9)), .int .i64 (s.S (k * 13 + 10)), .int .i64 (s.S (k * 13 + 11)), .int .i64 (s.S (k * 13 + 12))] 85)).block _ (lt_heap hS3l)).trans hS3l) (fun hSB => ?_)
                            clear hK K
                            refine wpAnyH_ready (rs := [24]) (by kernel_rfl) (by simp) ?_
                            refine AllReadyH.cons rfl (fun K hK => ?_) AllReadyH.nil
                            have hl3 := hTB.l3
                            have hrg := own_ge hTB.rs
                            refine step_append_lies _ rfl _ _ 47 rfl B0 85 is (.agg #[.int .i64 0, .int .i64 0, .int .i64 0, .int .i64 0, .int .i64 0, .int .i64 0, .int .i64 0, .int .i64 0, .int .i64 0, .int .i64 0, .int .i64 0, .int .i64 0, .int .i64 0]) 13 104 Tryz.underlying47 his hz0s hz1s hz2s rfl (by decide) _ _ _ rfl hTB.rs ⟨y3.heap.size, 0, none⟩ 1 1 [.int .i64 (s.S (k * 13)), .int .i64 (s.S (k * 13 + 1)), .int .i64 (s.S (k * 13 + 2)), .int .i64 (s.S (k * 13 + 3)), .int .i64 (s.S (k * 13 + 4)), .int .i64 (s.S (k * 13 + 5)), .int .i64 (s.S (k * 13 + 6)), .int .i64 (s.S (k * 13 + 7)), .int .i64 (s.S (k * 13 + 8)), .int .i64 (s.S (k * 13 + 9)), .int .i64 (s.S (k * 13 + 10)), .int .i64 (s.S (k * 13 + 11)), .int .i64 (s.S (k * 13 + 12))] rfl rfl ?c1 ?c2 (by omega) ?c3 ?c4 ?c5 _ rfl ?_
                            case c1 =>
                              intro j u hj
                              match j, hj with
                              | 0, hj => simp at hj; subst hj; simp [Addr.add]
                              | 1, hj => simp at hj; subst hj; simp [Addr.add]
                              | 2, hj => simp at hj; subst hj; simp [Addr.add]
                              | 3, hj => simp at hj; subst hj; simp [Addr.add]
                              | 4, hj => simp at hj; subst hj; simp [Addr.add]
                              | 5, hj => simp at hj; subst hj; simp [Addr.add]
                              | 6, hj => simp at hj; subst hj; simp [Addr.add]
                              | 7, hj => simp at hj; subst hj; simp [Addr.add]
                              | 8, hj => simp at hj; subst hj; simp [Addr.add]
                              | 9, hj => simp at hj; subst hj; simp [Addr.add]
                              | 10, hj => simp at hj; subst hj; simp [Addr.add]
                              | 11, hj => simp at hj; subst hj; simp [Addr.add]
                              | 12, hj => simp at hj; subst hj; simp [Addr.add]
                            case c2 => intro u hu; simp at hu; rcases hu with rfl | rfl | rfl | rfl | rfl | rfl | rfl | rfl | rfl | rfl | rfl | rfl | rfl <;> rfl
                            case c3 => unfold maxLen; omega
                            case c4 => omega
                            case c5 => exact hl3
                            intro g cg w2 hown hgrow hgk hlt2
                            refine hK.out _ _ ((hgrow.block _ (lt_heap hSB) hpb).trans hSB) (fun hSA => ?_)
                            clear hK K
                            refine wpAnyH_take (i := 25) (v := ?_) rfl (by kernel_rfl) (by kernel_rfl) (by kernel_rfl) (fun _ _ _ h => h) (Or.inl ⟨by kernel_rfl, by (intro wz hSz; go_simp; try with_reducible rfl)⟩) hSA ?_
                            go_simp
                            refine wpAnyH_ready (rs := [26]) (by kernel_rfl) (by simp) ?_
                            refine AllReadyH.cons rfl (fun K hK => ?_) AllReadyH.nil
                            have o16 := (hTB.obk hgrow hrg).c16
                            have fz := hTB.frg hgrow hrg 16
                            go_simp
                            refine hK.out _ _ ((Below.heap_setCell _ _ _ _ hpq).trans hSA) (fun hSZ => ?_)
                            clear hK K
                            refine wpAnyH_done (by kernel_rfl) ?_ _
                            have hZ := hTB.stepS (by decide) (by decide) (by decide) (by decide) (by decide) (by decide) hgrow _ rfl (by rw [fl13_step]; exact hown) hgk
                            go_wp2
                            go_roundw
                            case rel => exact ⟨k + 1, _, by omega, by go_num, Lib.hid hZ⟩
                            case measure => simp [intOf]; omega
                          · skip
                            go_simp
                            have hTB := hT3.on (below_n1 y3 (.cells #[.int .i64 (s.S (k * 13)), .int .i64 (s.S (k * 13 + 1)), .int .i64 (s.S (k * 13 + 2)), .int .i64 (s.S (k * 13 + 3)), .int .i64 (s.S (k * 13 + 4)), .int .i64 (s.S (k * 13 + 5)), .int .i64 (s.S (k * 13 + 6)), .int .i64 (s.S (k * 13 + 7)), .int .i64 (s.S (k * 13 + 8)), .int .i64 (s.S (k * 13 + 9)), .int .i64 (s.S (k * 13 + 10)), .int .i64 (s.S (k * 13 + 11)), .int .i64 (s.S (k * 13 + 12))] 85))
                            refine hK.out _ _ (((below_n1 y3 (.cells #[.int .i64 (s.S (k * 13)), .int .i64 (s.S (k * 13 + 1)), .int .i64 (s.S (k * 13 + 2)), .int .i64 (s.S (k * 13 + 3)), .int .i64 (s.S (k * 13 + 4)), .int .i64 (s.S (k * 13 + 5)), .int .i64 (s.S (k * 13 + 6)), .int .i64 (s.S (k * 13 + 7)), .int .i64 (s.S (k * 13 + 8)), .int .i64 (s.S (k * 13 + 9)), .int .i64 (s.S (k * 13 + 10)), .int .i64 (s.S (k * 13 + 11)), .int .i64 (s.S (k * 13 + 12))] 85)).block _ (lt_heap hS3)).trans hS3) (fun hSB => ?_)
                            clear hK K
                            refine wpAnyH_ready (rs := [1]) (by kernel_rfl) (by simp) ?_
                            refine AllReadyH.cons rfl (fun K hK => ?_) AllReadyH.nil
                            have o16 := hTB.ob.c16
                            go_simp
                            refine hK.out _ _ (hSB) (fun hSBl => ?_)
                            clear hK K
                            refine wpAnyH_ready (rs := [24]) (by kernel_rfl) (by simp) ?_
                            refine AllReadyH.cons rfl (fun K hK => ?_) AllReadyH.nil
                            have hl3 := hTB.l3
                            have hrg := own_ge hTB.rs
                            refine step_append_lies _ rfl _ _ 47 rfl B0 85 is (.agg #[.int .i64 0, .int .i64 0, .int .i64 0, .int .i64 0, .int .i64 0, .int .i64 0, .int .i64 0, .int .i64 0, .int .i64 0, .int .i64 0, .int .i64 0, .int .i64 0, .int .i64 0]) 13 104 Tryz.underlying47 his hz0s hz1s hz2s rfl (by decide) _ _ _ rfl hTB.rs ⟨y3.heap.size, 0, none⟩ 1 1 [.int .i64 (s.S (k * 13)), .int .i64 (s.S (k * 13 + 1)), .int .i64 (s.S (k * 13 + 2)), .int .i64 (s.S (k * 13 + 3)), .int .i64 (s.S (k * 13 + 4)), .int .i64 (s.S (k * 13 + 5)), .int .i64 (s.S (k * 13 + 6)), .int .i64 (s.S (k * 13 + 7)), .int .i64 (s.S (k * 13 + 8)), .int .i64 (s.S (k * 13 + 9)), .int .i64 (s.S (k * 13 + 10)), .int .i64 (s.S (k * 13 + 11)), .int .i64 (s.S (k * 13 + 12))] rfl rfl ?c1 ?c2 (by omega) ?c3 ?c4 ?c5 _ rfl ?_
                            case c1 =>
                              intro j u hj
                              match j, hj with
                              | 0, hj => simp at hj; subst hj; simp [Addr.add]
                              | 1, hj => simp at hj; subst hj; simp [Addr.add]
                              | 2, hj => simp at hj; subst hj; simp [Addr.add]
                              | 3, hj => simp at hj; subst hj; simp [Addr.add]
                              | 4, hj => simp at hj; subst hj; simp [Addr.add]
                              | 5, hj => simp at hj; subst hj; simp [Addr.add]
                              | 6, hj => simp at hj; subst hj; simp [Addr.add]
                              | 7, hj => simp at hj; subst hj; simp [Addr.add]
                              | 8, hj => simp at hj; subst hj; simp [Addr.add]
                              | 9, hj => simp at hj; subst hj; simp [Addr.add]
                              | 10, hj => simp at hj; subst hj; simp [Addr.add]
                              | 11, hj => simp at hj; subst hj; simp [Addr.add]
                              | 12, hj => simp at hj; subst hj; simp [Addr.add]
                            case c2 => intro u hu; simp at hu; rcases hu with rfl | rfl | rfl | rfl | rfl | rfl | rfl | rfl | rfl | rfl | rfl | rfl | rfl <;> rfl
                            case c3 => unfold maxLen; omega
                            case c4 => omega
                            case c5 => exact hl3
                            intro g cg w2 hown hgrow hgk hlt2
                            refine hK.out _ _ ((hgrow.block _ (lt_heap hSBl) hpb).trans hSBl) (fun hSA => ?_)
                            clear hK K
                            refine wpAnyH_take (i := 25) (v := ?_) rfl (by kernel_rfl) (by kernel_rfl) (by kernel_rfl) (fun _ _ _ h => h) (Or.inl ⟨by kernel_rfl, by (intro wz hSz; go_simp; try with_reducible rfl)⟩) hSA ?_
                            go_simp
                            refine wpAnyH_ready (rs := [26]) (by kernel_rfl) (by simp) ?_
                            refine AllReadyH.cons rfl (fun K hK => ?_) AllReadyH.nil
                            have o16 := (hTB.obk hgrow hrg).c16
                            have fz := hTB.frg hgrow hrg 16
                            go_simp
                            refine hK.out _ _ ((Below.heap_setCell _ _ _ _ hpq).trans hSA) (fun hSZ => ?_)
                            clear hK K
                            refine wpAnyH_done (by kernel_rfl) ?_ _
                            have hZ := hTB.stepS (by decide) (by decide) (by decide) (by decide) (by decide) (by decide) hgrow _ rfl (by rw [fl13_step]; exact hown) hgk
                            go_wp2
                            go_roundw
                            case rel => exact ⟨k + 1, _, by omega, by go_num, Lib.hid hZ⟩
                            case measure => simp [intOf]; omega
                  · obtain rfl : k = s.ns := by omega
                    have hq2 := HT.out.l2
                    have hq3 := HT.out.l3
                    have hsb := HB.out.low HT.out.bl (by omega)
                    have d13 := hsb.c13
                    have d14 := hsb.c14
                    have d15 := hsb.c15
                    have d16 := hsb.c16
                    simp only at d13 d14 d15 d16
                    clear hsb
                    obtain ⟨a9, rfl, rfl, rfl, rfl, hsc9, hall⟩ := HT.out.all HSA.out
                    have hl1 := HT.out.l1
                    have hz9 : w.heap.size + 1 < W1.heap.size := by omega
                    have hRR : wr.heap[w.heap.size + 1]? = some (.cells #[.int .i64 0, .int .i64 0, .int .i64 0, .int .i64 0, .int .i64 0, .int .i64 0, .int .u64 0, .int .i64 0, .int .i64 0, .int .i64 0, .int .i64 0, .int .i64 0, .int .i64 0, .slice none 0 0, .slice none 0 0, .slice none 0 0, .slice none 0 0] 49 (0, 0)) := (HT.out.bl.block _ hz9).trans HR.out
                    have HRR := Lib.hid hRR
                    have HFB := Lib.hid (show Below w.heap.size w (wr.setRow (w.heap.size + 1) (SC s a9)) from below_setRow (BW.out.trans (HT.out.bl.mono (by omega))) (by omega) _)
                    have HFS := Lib.hid (hall (wr.setRow (w.heap.size + 1) (SC s a9)) (fun b h1 h2 => setRow_other _ _ _ _ (by omega)) (by simp))
                    have HF := Lib.hid (setRow_heap wr (w.heap.size + 1) _ (SC s a9) _ _ hRR)
                    have hSB : SBox wr q s a9 := ⟨by omega, HT.out.ob⟩
                    obtain ⟨cs9, hcs9⟩ : ∃ cs9 : List Value, cs9 = ((SC s a9)).toList := ⟨_, rfl⟩
                    have HQ := Lib.hid (show wr.rangeAt q 0 cs9 by rw [hcs9]; exact hSB.range)
                    have HCS := Lib.hid (show cs9.toArray = (SC s a9) by rw [hcs9])
                    obtain ⟨wF, hwF⟩ : ∃ wF, wF = wr.setRow (w.heap.size + 1) (SC s a9) := ⟨_, rfl⟩
                    rw [← hwF] at HFB HFS HF
                    have HWF := Lib.hid (show wr.setRow (w.heap.size + 1) cs9.toArray = wF by rw [HCS.out, hwF])
                    have HSZ := Lib.hid (show (Tryz.prog.info? 49).map (·.size) = some cs9.length by rw [hcs9]; kernel_rfl)
                    have HI1 := Lib.hid (show (Tryz.prog.info? 49).map (·.size) = some cs9.toArray.size by rw [HCS.out]; kernel_rfl)
                    have HI2 := Lib.hid (show (#[.int .i64 0, .int .i64 0, .int .i64 0, .int .i64 0, .int .i64 0, .int .i64 0, .int .u64 0, .int .i64 0, .int .i64 0, .int .i64 0, .int .i64 0, .int .i64 0, .int .i64 0, .slice none 0 0, .slice none 0 0, .slice none 0 0, .slice none 0 0] : Array Value).size = cs9.toArray.size by rw [HCS.out]; rfl)
                    have HI3 := Lib.hid (show cs9.toArray.all (·.oneCell') = true by rw [HCS.out]; simp [Value.oneCell'])
                    clear hRR hwF hall hSB hcs9
                    go_wp2_with (first | (with_reducible refine wpList_load_mid rfl 49 (.tmp 4) rfl q 0 rfl cs9 _ HQ.out Tryz.underlying49 rfl HSZ.out ?_) | (with_reducible refine Re.wpList_store_row rfl 49 (.tmp 2) (.tmp 135) rfl wr _ cs9.toArray (w.heap.size + 1) _ HRR.out rfl rfl HI1.out HI2.out HI3.out ?_; rw [HWF.out]))
                    have r : ∀ i, wF.cell? ⟨w.heap.size + 1, i, none⟩ = ((SC s a9))[i]? := fun i => cell_of_row _ _ i _ _ _ HF.out
                    have r0 := r 0
                    have r1 := r 1
                    have r2 := r 2
                    have r3 := r 3
                    have r4 := r 4
                    have r5 := r 5
                    have r6 := r 6
                    have r7 := r 7
                    have r8 := r 8
                    have r9 := r 9
                    have r10 := r 10
                    have r11 := r 11
                    have r12 := r 12
                    have r13 := r 13
                    have r14 := r 14
                    have r15 := r 15
                    have r16 := r 16
                    simp at r0 r1 r2 r3 r4 r5 r6 r7 r8 r9 r10 r11 r12 r13 r14 r15 r16
                    clear r
                    exact bodyPost_ret (v := SV s a9) (by simp [results, Tryz.results8, go_sem, r0, r1, r2, r3, r4, r5, r6, r7, r8, r9, r10, r11, r12, r13, r14, r15, r16]) rfl ⟨⟨a9, rfl, hsc9, HFS.out⟩, HFB.out⟩

end Go.Proofs.YtplcbdmiccpnnaaGreat.Sc
