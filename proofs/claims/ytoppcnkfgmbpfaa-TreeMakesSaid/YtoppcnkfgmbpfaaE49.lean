/- Trees: the document's example. -/
import Derived.Test.YtoppcnkfgmbpfaaE41
import Derived.BigQuiet
namespace Go.Proofs.Ytoppcnkfgmbpfaa.Tr
open Go.RowKit Go.Proofs.Ytoppcnkfgmbpfaa Go.Proofs.Ytoppcnkfgmbpfaa.Wa Go.Proofs.Ytoppcnkfgmbpfaa.Ve Go.Proofs.Ytoppcnkfgmbpfaa.Au Go.Proofs.Ytoppcnkfgmbpfaa.Bx
set_option linter.unusedVariables false
set_option linter.unusedSimpArgs false

def zz : Nat → Int := fun _ => 0

theorem zz_nodes : (grow zz 5 (List.range 5) 0 0).1.map (fun n => (n.left, n.right, n.first, n.count)) = [(1, 2, 0, 0), (-1, -1, 0, 2), (-1, -1, 2, 3)] := by decide +kernel
theorem zz_order : (grow zz 5 (List.range 5) 0 0).2.length = 5 := by decide +kernel
theorem zz_high : height zz 5 (List.range 5) = 2 := by decide +kernel

theorem zz_len : (grow zz 5 (List.range 5) 0 0).1.length = 3 := by
  have h := congrArg List.length zz_nodes
  simpa using h

theorem zz_deep : (D 3 (grow zz 5 (List.range 5) 0 0).1 3).1 = 2 := by
  have h := (druns_seg zz 3 5 (List.range 5) 0 0 0 (fun _ => 0) (by decide) (by decide) (by rw [zz_len]; decide)).1
  rw [zz_high] at h
  unfold D
  rw [List.take_of_length_le (by rw [zz_len]; decide), h]
  decide

theorem zz_count (i : Nat) (hi : i < 3) (a b d c : Int) (hc : ([(1, 2, 0, 0), (-1, -1, 0, 2), (-1, -1, 2, 3)] : List (Int × Int × Int × Int))[i]? = some (a, b, d, c)) : (flatNd zz (grow zz 5 (List.range 5) 0 0).1)[i * 16 + 15]? = some (.int .i64 c) := by
  have hlt : i < (grow zz 5 (List.range 5) 0 0).1.length := by rw [zz_len]; exact hi
  refine flat_at zz _ i _ (List.getElem?_eq_getElem hlt) 15 _ ?_
  rw [← zz_nodes, List.getElem?_map, List.getElem?_eq_getElem hlt] at hc
  have e : ((grow zz 5 (List.range 5) 0 0).1[i]).count = c := by
    simp only [Option.map_some, Option.some.injEq, Prod.mk.injEq] at hc
    exact hc.2.2.2
  show some (Value.int .i64 ((grow zz 5 (List.range 5) 0 0).1[i]).count) = _
  rw [e]

theorem made12 (j : Nat) (hj : j < 60) : (madeCells #[.int .i64 0, .int .i64 0, .int .i64 0, .int .i64 0, .int .i64 0, .int .i64 0, .int .i64 0, .int .i64 0, .int .i64 0, .int .i64 0, .int .i64 0, .int .i64 0] 60).toList[j]? = some (.int .i64 0) := by
  have h12 : j % 12 < 12 := Nat.mod_lt _ (by decide)
  simp [madeCells, hj]
  generalize j % 12 = m at h12
  match m, h12 with
  | 0, _ => rfl
  | 1, _ => rfl
  | 2, _ => rfl
  | 3, _ => rfl
  | 4, _ => rfl
  | 5, _ => rfl
  | 6, _ => rfl
  | 7, _ => rfl
  | 8, _ => rfl
  | 9, _ => rfl
  | 10, _ => rfl
  | 11, _ => rfl

set_option maxHeartbeats 4000000 in
set_option maxRecDepth 100000 in
theorem awake_tree (w : World) : Calls Try.prog 5 #[] w fun e w' => e = .returned (.bool true) ∧ Below w.heap.size w w' := by

  obtain ⟨i0, hi, hz0, hz1, hz2⟩ := info_parts infoPairP
  go_enter Try.func5, Try.ntmps5
  have hmax : 5 ≤ maxLen := by unfold maxLen; omega
  have hbyt : i0.bytes * 5 ≤ 281474976710656 := by rw [hz2]; omega
  go_wp2_with (first | (at_make; refine wpList_make_full _ rfl _ _ 29 rfl w.heap.size 43 i0 (.agg #[.int .i64 0, .int .i64 0, .int .i64 0, .int .i64 0, .int .i64 0, .int .i64 0, .int .i64 0, .int .i64 0, .int .i64 0, .int .i64 0, .int .i64 0, .int .i64 0]) 12 Try.underlying29 hi hz0 hz1 _ _ _ _ 5 rfl rfl rfl rfl hbyt hmax (Nat.le_refl _) ?_))
  intro w1 hown hgrow
  have hb1 : Below w.heap.size w w1 := (Below.refl _ _).grown hgrow (Nat.le_refl _) (fun k hk => by cases hk)
  have hmk := make_l zz 5 w.heap.size 0 5 (by decide) (by decide) w1 (hown.lt _ rfl).2 (fun j hj => by
    rw [Nat.zero_add, hown.cellAt j (by omega)]
    exact made12 j (by omega))
  have HMK := Lib.hid hmk
  clear hmk hown hgrow hmax hbyt
  go_wp2_with fail
  refine HMK.out.mono ?_
  rintro e y2 ⟨⟨v, rfl, vn, vo, rfl, hvn, hvo⟩, hb2⟩
  rw [zz_len] at hvn
  rw [zz_order] at hvo
  obtain ⟨ao, ko, rfl⟩ := own_slice hvo
  rcases hvn.2 with ⟨_, hx0⟩ | ⟨gn, cap, cur, hv, hgn, hcur, -⟩
  · exact absurd hx0 (by decide)
  subst hv
  have hN31 : y2.cell? ⟨gn, 31, none⟩ = some (.int .i64 2) := by rw [hvn.cellAt 31 (by decide)]; exact zz_count 1 (by decide) (-1) (-1) 0 2 rfl
  have hN47 : y2.cell? ⟨gn, 47, none⟩ = some (.int .i64 3) := by rw [hvn.cellAt 47 (by decide)]; exact zz_count 2 (by decide) (-1) (-1) 2 3 rfl
  have HVN := Lib.hid hvn
  have hgl := lt_heap hcur
  have HU2 := Lib.hid (Below.refl y2.heap.size y2)
  have HB2 := Lib.hid (hb1.trans (hb2.mono hb1.size))
  clear hvn hvo hcur hb1 hb2
  have HA := Lib.hid (heap_alloc_last y2 (.cells #[.slice none 0 0, .slice none 0 0] 27))
  have hHi := Lib.hid (show (Try.prog.info? 27).map (·.size) = some (#[.slice (some ⟨gn, 0, none⟩) 3 cap, .slice ao 5 ko] : Array Value).size by kernel_rfl)
  have hHz := Lib.hid (show (#[.slice none 0 0, .slice none 0 0] : Array Value).size = (#[.slice (some ⟨gn, 0, none⟩) 3 cap, .slice ao 5 ko] : Array Value).size from rfl)
  have hHo := Lib.hid (show (#[.slice (some ⟨gn, 0, none⟩) 3 cap, .slice ao 5 ko] : Array Value).all (·.oneCell') = true by simp [Value.oneCell'])
  go_upto_region 2 with (refine Au.wpList_store_row rfl 27 (.tmp 1) (.tmp 3) rfl (y2.alloc (.cells #[.slice none 0 0, .slice none 0 0] 27)) #[.slice none 0 0, .slice none 0 0] #[.slice (some ⟨gn, 0, none⟩) 3 cap, .slice ao 5 ko] (y2.heap.size) 27 HA.out rfl rfl hHi.out hHz.out hHo.out ?_)
  clear hHi hHz hHo
  have hN := setRow_heap _ (y2.heap.size) _ #[.slice (some ⟨gn, 0, none⟩) 3 cap, .slice ao 5 ko] _ _ HA.out
  clear HA
  have hsz := HU2.out.size
  have hb := below_n1 y2 (.cells #[.slice none 0 0, .slice none 0 0] 27)
  have HUx := below_setRow (g := y2.heap.size) (HU2.out.trans (hb.mono HU2.out.size)) (by omega) #[.slice (some ⟨gn, 0, none⟩) 3 cap, .slice ao 5 ko]
  have hO : ∀ kk, kk < y2.heap.size → ((y2.alloc (.cells #[.slice none 0 0, .slice none 0 0] 27)).setRow (y2.heap.size) #[.slice (some ⟨gn, 0, none⟩) 3 cap, .slice ao 5 ko]).heap[kk]? = y2.heap[kk]? := fun kk hk => (setRow_other _ _ _ _ (by omega)).trans (hb.block _ hk)
  obtain ⟨y3, hy3⟩ : ∃ y, (y2.alloc (.cells #[.slice none 0 0, .slice none 0 0] 27)).setRow (y2.heap.size) #[.slice (some ⟨gn, 0, none⟩) 3 cap, .slice ao 5 ko] = y := ⟨_, rfl⟩
  have hs3 : y3.heap.size = y2.heap.size + 1 := by rw [← hy3]; simp [World.setRow]
  rw [hy3] at hN HUx hO ⊢
  clear hy3 hsz hb
  have HU3 := Lib.hid HUx
  clear HUx
  have hr3_0 := hN
  clear hN hO
  clear HU2
  have c0_0 := cell_of_row _ _ 0 _ _ _ hr3_0
  have c0_1 := cell_of_row _ _ 1 _ _ _ hr3_0
  simp at c0_0 c0_1
  have n31 := (HU3.out.cell (p := ⟨gn, 31, none⟩) hgl).trans hN31
  have n47 := (HU3.out.cell (p := ⟨gn, 47, none⟩) hgl).trans hN47
  clear hN31 hN47
  have hdp := deep_p zz (grow zz 5 (List.range 5) 0 0).1 w1.heap.size gn cap (by rw [zz_len]; decide) (.slice ao 5 ko) ao 5 ko rfl y3 (by rw [zz_len]; exact own_keep HVN.out (fun q hq => HU3.out.block q (HVN.out.lt q hq).2))
  rw [zz_len, zz_deep] at hdp
  have HDP := Lib.hid hdp
  clear hdp
  go_wp2_with (go_at_call 9; refine HDP.out.mono ?_; rintro e y9 ⟨rfl, hb9⟩)
  go_ret
  have h := HB2.out.trans (HU3.out.mono HB2.out.size)
  exact ⟨rfl, h.trans (hb9.mono h.size)⟩

end Go.Proofs.Ytoppcnkfgmbpfaa.Tr
