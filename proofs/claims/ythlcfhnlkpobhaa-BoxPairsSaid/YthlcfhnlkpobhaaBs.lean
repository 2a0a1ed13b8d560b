/- Boxes: whether a number of some points lies at an end, by the program. -/
import Derived.Test.YthlcfhnlkpobhaaAu
import Derived.Test.YthlcfhnlkpobhaaBa
namespace Go.Proofs.Ythlcfhnlkpobhaa.Bx
open Go.RowKit Go.Proofs.Ythlcfhnlkpobhaa Go.Proofs.Ythlcfhnlkpobhaa.Wa Go.Proofs.Ythlcfhnlkpobhaa.Ve Go.Proofs.Ythlcfhnlkpobhaa.Au
set_option linter.unusedVariables false
set_option linter.unusedSimpArgs false

theorem ret_b2 {p q : Bool} (h : q = p) : Ending.returned (.bool p) = .returned (.bool q) := by rw [h]

/-- the greatest amount of a point's numbers -/
def mx (L : Nat → Int) (k : Nat) : Int := max (max (Pl.amount (L (k * 3))) (Pl.amount (L (k * 3 + 1)))) (Pl.amount (L (k * 3 + 2)))

def anyE (L : Nat → Int) : Nat → Bool
  | 0 => false
  | n + 1 => anyE L n || decide (mx L n = 2147483648)

theorem anyE_true (L : Nat → Int) {k : Nat} (h : mx L k = 2147483648) : ∀ n, k < n → anyE L n = true
  | 0, hk => absurd hk (by omega)
  | n + 1, hk => by
    unfold anyE
    by_cases e : k = n
    · subst e; simp [h]
    · rw [anyE_true L h n (by omega)]; rfl

theorem anyE_false (L : Nat → Int) : ∀ n, (∀ j, j < n → ¬ mx L j = 2147483648) → anyE L n = false
  | 0, _ => rfl
  | n + 1, h => by
    unfold anyE
    rw [anyE_false L n (fun j hj => h j (by omega))]
    simp [h n (by omega)]

theorem max3 (a b c : Int) (W : World) : (Builtin.max_ #[39, 39, 39] 39 #[.int .i64 a, .int .i64 b, .int .i64 c]).run Try.prog W = .ok (.int .i64 (max (max a b) c)) W := by
  have e1 : max a b = if a < b then b else a := by rw [Int.max_def]; split <;> split <;> omega
  have e2 : max (max a b) c = if max a b < c then c else max a b := by rw [Int.max_def (max a b)]; split <;> split <;> omega
  rw [e2, e1]
  by_cases h1 : a < b
  · by_cases h2 : b < c <;> simp [Builtin.max_, Builtin.max2, go_sem, h1, h2]
  · by_cases h2 : a < c <;> simp [Builtin.max_, Builtin.max2, go_sem, h1, h2]

set_option maxHeartbeats 4000000 in
set_option maxRecDepth 100000 in
theorem atend_row (gl n cap : Nat) (L : Nat → Int) (hn : n ≤ 1000000) (w : World) (hg : gl < w.heap.size) (hp : ∀ j, j < n * 3 → w.cell? ⟨gl, j, none⟩ = some (.int .i64 (L j))) : Calls Try.prog 68 #[.slice (some ⟨gl, 0, none⟩) n cap] w fun e' w' => e' = .returned (.bool (anyE L n)) ∧ Below w.heap.size w w' := by
  have HP := Lib.hid hp
  clear hp
  have hm3 := max3
  go_enter Try.func68, Try.ntmps68
  go_wp2_with fail
  go_loopw [7] (fun i wr => ∃ k : Nat, k ≤ n ∧ i = .int .i64 k ∧ Hid (∀ j, j < k → ¬ mx L j = 2147483648) ∧ Hid (Below w.heap.size w wr)) (fun i _ => n - (intOf i).toNat)
  case atStart => exact ⟨0, by omega, rfl, Lib.hid (fun j hj => by omega), Lib.hid (Below.refl _ _)⟩
  case round =>
    obtain ⟨k, hk, rfl, HN, HU10⟩ := hrel
    obtain ⟨y10, rfl⟩ : ∃ y : World, y = wr := ⟨_, rfl⟩
    by_cases hlt : k < n
    · have hlt' : (k : Int) < n := by omega
      have e0 : y10.cell? ⟨gl, k * 3, none⟩ = some (.int .i64 (L (k * 3))) := (HU10.out.cell (p := ⟨gl, k * 3 + 0, none⟩) hg).trans (HP.out (k * 3 + 0) (by omega))
      have e1 : y10.cell? ⟨gl, k * 3 + 1, none⟩ = some (.int .i64 (L (k * 3 + 1))) := (HU10.out.cell (p := ⟨gl, k * 3 + 1, none⟩) hg).trans (HP.out (k * 3 + 1) (by omega))
      have e2 : y10.cell? ⟨gl, k * 3 + 2, none⟩ = some (.int .i64 (L (k * 3 + 2))) := (HU10.out.cell (p := ⟨gl, k * 3 + 2, none⟩) hg).trans (HP.out (k * 3 + 2) (by omega))
      obtain ⟨v, hv⟩ : ∃ v, decide (mx L k = 2147483648) = v := ⟨_, rfl⟩
      have hv1 : decide (max (max (Pl.amount (L (k * 3))) (Pl.amount (L (k * 3 + 1)))) (Pl.amount (L (k * 3 + 2))) = 2147483648) = v := hv
      have hv2 : ((max (max (Pl.amount (L (k * 3))) (Pl.amount (L (k * 3 + 1)))) (Pl.amount (L (k * 3 + 2)))) == 2147483648) = v := hv
      go_wp2_with fail
      clear e0 e1 e2
      have hb11 := below_n1 y10 (.cells #[.int .i64 (L (k * 3)), .int .i64 (L (k * 3 + 1)), .int .i64 (L (k * 3 + 2))] 71)
      have hN := heap_alloc_last y10 (.cells #[.int .i64 (L (k * 3)), .int .i64 (L (k * 3 + 1)), .int .i64 (L (k * 3 + 2))] 71)
      obtain ⟨y11, hy11⟩ : ∃ y, y10.alloc (.cells #[.int .i64 (L (k * 3)), .int .i64 (L (k * 3 + 1)), .int .i64 (L (k * 3 + 2))] 71) = y := ⟨_, rfl⟩
      have hs11 : y11.heap.size = y10.heap.size + 1 := by rw [← hy11]; simp
      rw [hy11] at hb11 hN ⊢
      clear hy11
      have HU11 := Lib.hid (HU10.out.trans (hb11.mono HU10.out.size))
      clear HU10
      have hr11_0 := hN
      clear hN
      cases v
      · skip
        refine wp_region_held_drew (S := fun y => y.heap[y10.heap.size]? = some (.cells #[.int .i64 (L (k * 3)), .int .i64 (L (k * 3 + 1)), .int .i64 (L (k * 3 + 2))] 71 (0, 0))) (by kernel_rfl) (hr11_0) (fun hS0 => ?_)
        obtain ⟨y12, hy12⟩ : ∃ y, y11.drew = y := ⟨_, rfl⟩
        have HU12 := Lib.hid (show Below w.heap.size w y12 by rw [← hy12]; exact HU11.out.drew)
        have hr12_0 : y12.heap[y10.heap.size]? = some (.cells #[.int .i64 (L (k * 3)), .int .i64 (L (k * 3 + 1)), .int .i64 (L (k * 3 + 2))] 71 (0, 0)) := by rw [← hy12]; exact hr11_0
        rw [hy12] at hS0 ⊢
        clear hy12
        refine wpAnyH_take (i := 0) (v := ?_) rfl (by kernel_rfl) (by kernel_rfl) (by kernel_rfl) (fun _ _ _ h => h) (Or.inl ⟨by kernel_rfl, by (intro wz hSz; go_simp; try with_reducible rfl)⟩) hS0 ?_
        go_simp
        refine wpAnyH_take (i := 1) (v := ?_) rfl (by kernel_rfl) (by kernel_rfl) (by kernel_rfl) (fun _ _ _ h => h) (Or.inl ⟨by kernel_rfl, by (intro wz hSz; have c0_0 := cell_of_row _ _ 0 _ _ _ hSz; have c0_1 := cell_of_row _ _ 1 _ _ _ hSz; have c0_2 := cell_of_row _ _ 2 _ _ _ hSz; simp at c0_0 c0_1 c0_2; go_simp; try with_reducible rfl)⟩) hS0 ?_
        go_simp
        refine wpAnyH_take (i := 3) (v := ?_) rfl (by kernel_rfl) (by kernel_rfl) (by kernel_rfl) (fun _ _ _ h => h) (Or.inl ⟨by kernel_rfl, by (intro wz hSz; go_simp; try with_reducible rfl)⟩) hS0 ?_
        go_simp
        refine wpAnyH_take (i := 4) (v := ?_) rfl (by kernel_rfl) (by kernel_rfl) (by kernel_rfl) (fun _ _ _ h => h) (Or.inl ⟨by kernel_rfl, by (intro wz hSz; have c0_0 := cell_of_row _ _ 0 _ _ _ hSz; have c0_1 := cell_of_row _ _ 1 _ _ _ hSz; have c0_2 := cell_of_row _ _ 2 _ _ _ hSz; simp at c0_0 c0_1 c0_2; go_simp; try with_reducible rfl)⟩) hS0 ?_
        go_simp
        refine wpAnyH_take (i := 6) (v := ?_) rfl (by kernel_rfl) (by kernel_rfl) (by kernel_rfl) (fun _ _ _ h => h) (Or.inl ⟨by kernel_rfl, by (intro wz hSz; go_simp; try with_reducible rfl)⟩) hS0 ?_
        go_simp
        refine wpAnyH_take (i := 7) (v := ?_) rfl (by kernel_rfl) (by kernel_rfl) (by kernel_rfl) (fun _ _ _ h => h) (Or.inl ⟨by kernel_rfl, by (intro wz hSz; have c0_0 := cell_of_row _ _ 0 _ _ _ hSz; have c0_1 := cell_of_row _ _ 1 _ _ _ hSz; have c0_2 := cell_of_row _ _ 2 _ _ _ hSz; simp at c0_0 c0_1 c0_2; go_simp; try with_reducible rfl)⟩) hS0 ?_
        go_simp
        refine wpAnyH_ready (rs := [2]) (by kernel_rfl) (by simp) ?_
        refine AllReadyH.cons rfl (fun K hK => ?_) AllReadyH.nil
        go_simp
        go_wp2_with (go_at_call 136; refine (abs_any _ _).mono ?_; rintro e ww ⟨rfl, rfl⟩)
        refine hK.out _ _ (hS0) (fun hS12q2 => ?_)
        clear hK K
        refine wpAnyH_ready (rs := [5]) (by kernel_rfl) (by simp) ?_
        refine AllReadyH.cons rfl (fun K hK => ?_) AllReadyH.nil
        go_simp
        go_wp2_with (go_at_call 136; refine (abs_any _ _).mono ?_; rintro e ww ⟨rfl, rfl⟩)
        refine hK.out _ _ (hS12q2) (fun hS12q5 => ?_)
        clear hK K
        refine wpAnyH_ready (rs := [8]) (by kernel_rfl) (by simp) ?_
        refine AllReadyH.cons rfl (fun K hK => ?_) AllReadyH.nil
        go_simp
        go_wp2_with (go_at_call 136; refine (abs_any _ _).mono ?_; rintro e ww ⟨rfl, rfl⟩)
        refine hK.out _ _ (hS12q5) (fun hS12q8 => ?_)
        clear hK K
        refine wpAnyH_take (i := 9) (v := ?_) rfl (by kernel_rfl) (by kernel_rfl) (by kernel_rfl) (fun _ _ _ h => h) (Or.inl ⟨by kernel_rfl, by (intro wz hSz; go_simp; try with_reducible rfl)⟩) hS12q8 ?_
        go_simp
        refine wpAnyH_take (i := 10) (v := ?_) rfl (by kernel_rfl) (by kernel_rfl) (by kernel_rfl) (fun _ _ _ h => h) (Or.inl ⟨by kernel_rfl, by (intro wz hSz; go_simp; try with_reducible rfl)⟩) hS12q8 ?_
        go_simp
        refine wpAnyH_done (by kernel_rfl) ?_ _
        go_wp2
        go_roundw
        case rel => exact ⟨k + 1, by omega, by go_num, Lib.hid (fun j hj => by rcases Nat.lt_or_ge j k with h9 | h9 <;> first | exact HN.out j h9 | (obtain rfl : j = k := (by omega); exact of_decide_eq_false hv)), HU12⟩
        case measure => simp [intOf]; omega
      · skip
        refine wp_region_held_drew (S := fun y => y.heap[y10.heap.size]? = some (.cells #[.int .i64 (L (k * 3)), .int .i64 (L (k * 3 + 1)), .int .i64 (L (k * 3 + 2))] 71 (0, 0))) (by kernel_rfl) (hr11_0) (fun hS0 => ?_)
        obtain ⟨y12, hy12⟩ : ∃ y, y11.drew = y := ⟨_, rfl⟩
        have HU12 := Lib.hid (show Below w.heap.size w y12 by rw [← hy12]; exact HU11.out.drew)
        have hr12_0 : y12.heap[y10.heap.size]? = some (.cells #[.int .i64 (L (k * 3)), .int .i64 (L (k * 3 + 1)), .int .i64 (L (k * 3 + 2))] 71 (0, 0)) := by rw [← hy12]; exact hr11_0
        rw [hy12] at hS0 ⊢
        clear hy12
        refine wpAnyH_take (i := 0) (v := ?_) rfl (by kernel_rfl) (by kernel_rfl) (by kernel_rfl) (fun _ _ _ h => h) (Or.inl ⟨by kernel_rfl, by (intro wz hSz; go_simp; try with_reducible rfl)⟩) hS0 ?_
        go_simp
        refine wpAnyH_take (i := 1) (v := ?_) rfl (by kernel_rfl) (by kernel_rfl) (by kernel_rfl) (fun _ _ _ h => h) (Or.inl ⟨by kernel_rfl, by (intro wz hSz; have c0_0 := cell_of_row _ _ 0 _ _ _ hSz; have c0_1 := cell_of_row _ _ 1 _ _ _ hSz; have c0_2 := cell_of_row _ _ 2 _ _ _ hSz; simp at c0_0 c0_1 c0_2; go_simp; try with_reducible rfl)⟩) hS0 ?_
        go_simp
        refine wpAnyH_take (i := 3) (v := ?_) rfl (by kernel_rfl) (by kernel_rfl) (by kernel_rfl) (fun _ _ _ h => h) (Or.inl ⟨by kernel_rfl, by (intro wz hSz; go_simp; try with_reducible rfl)⟩) hS0 ?_
        go_simp
        refine wpAnyH_take (i := 4) (v := ?_) rfl (by kernel_rfl) (by kernel_rfl) (by kernel_rfl) (fun _ _ _ h => h) (Or.inl ⟨by kernel_rfl, by (intro wz hSz; have c0_0 := cell_of_row _ _ 0 _ _ _ hSz; have c0_1 := cell_of_row _ _ 1 _ _ _ hSz; have c0_2 := cell_of_row _ _ 2 _ _ _ hSz; simp at c0_0 c0_1 c0_2; go_simp; try with_reducible rfl)⟩) hS0 ?_
        go_simp
        refine wpAnyH_take (i := 6) (v := ?_) rfl (by kernel_rfl) (by kernel_rfl) (by kernel_rfl) (fun _ _ _ h => h) (Or.inl ⟨by kernel_rfl, by (intro wz hSz; go_simp; try with_reducible rfl)⟩) hS0 ?_
        go_simp
        refine wpAnyH_take (i := 7) (v := ?_) rfl (by kernel_rfl) (by kernel_rfl) (by kernel_rfl) (fun _ _ _ h => h) (Or.inl ⟨by kernel_rfl, by (intro wz hSz; have c0_0 := cell_of_row _ _ 0 _ _ _ hSz; have c0_1 := cell_of_row _ _ 1 _ _ _ hSz; have c0_2 := cell_of_row _ _ 2 _ _ _ hSz; simp at c0_0 c0_1 c0_2; go_simp; try with_reducible rfl)⟩) hS0 ?_
        go_simp
        refine wpAnyH_ready (rs := [2]) (by kernel_rfl) (by simp) ?_
        refine AllReadyH.cons rfl (fun K hK => ?_) AllReadyH.nil
        go_simp
        go_wp2_with (go_at_call 136; refine (abs_any _ _).mono ?_; rintro e ww ⟨rfl, rfl⟩)
        refine hK.out _ _ (hS0) (fun hS12q2 => ?_)
        clear hK K
        refine wpAnyH_ready (rs := [5]) (by kernel_rfl) (by simp) ?_
        refine AllReadyH.cons rfl (fun K hK => ?_) AllReadyH.nil
        go_simp
        go_wp2_with (go_at_call 136; refine (abs_any _ _).mono ?_; rintro e ww ⟨rfl, rfl⟩)
        refine hK.out _ _ (hS12q2) (fun hS12q5 => ?_)
        clear hK K
        refine wpAnyH_ready (rs := [8]) (by kernel_rfl) (by simp) ?_
        refine AllReadyH.cons rfl (fun K hK => ?_) AllReadyH.nil
        go_simp
        go_wp2_with (go_at_call 136; refine (abs_any _ _).mono ?_; rintro e ww ⟨rfl, rfl⟩)
        refine hK.out _ _ (hS12q5) (fun hS12q8 => ?_)
        clear hK K
        refine wpAnyH_take (i := 9) (v := ?_) rfl (by kernel_rfl) (by kernel_rfl) (by kernel_rfl) (fun _ _ _ h => h) (Or.inl ⟨by kernel_rfl, by (intro wz hSz; go_simp; try with_reducible rfl)⟩) hS12q8 ?_
        go_simp
        refine wpAnyH_take (i := 10) (v := ?_) rfl (by kernel_rfl) (by kernel_rfl) (by kernel_rfl) (fun _ _ _ h => h) (Or.inl ⟨by kernel_rfl, by (intro wz hSz; go_simp; try with_reducible rfl)⟩) hS12q8 ?_
        go_simp
        refine wpAnyH_done (by kernel_rfl) ?_ _
        go_wp2
        go_ret
        exact ⟨ret_b2 (anyE_true L (of_decide_eq_true hv) n hlt), HU12.out⟩
    · obtain rfl : k = n := by omega
      go_wp2
      go_ret
      exact ⟨ret_b2 (anyE_false L k HN.out), HU10.out⟩

end Go.Proofs.Ythlcfhnlkpobhaa.Bx
