/- Layer 25, the law's awake: the document's examples. -/
import Derived.Test.YtndpidmbfdpiaaaPnm
import Derived.Test.YtndpidmbfdpiaaaPnh
namespace Go.Proofs.Ytndpidmbfdpiaaa.Pn
open Go Go.RowKit Go.Proofs.Ytndpidmbfdpiaaa Go.Proofs.Ytndpidmbfdpiaaa.Au Go.Proofs.Ytndpidmbfdpiaaa.Re
set_option linter.unusedVariables false
set_option linter.unusedSimpArgs false

/-- numbers that fill a block -/
theorem ro_full {w : World} {b : Nat} {l : List Int} {T : TypeId} (h : w.heap[b]? = some (.cells (iv l).toArray T (0, 0))) (hl : l.length ≤ 9223372036854775807) : Ro w (.slice (some ⟨b, 0, none⟩) l.length l.length) l := by
  refine ⟨_, _, _, rfl, rfl, ⟨hl, Nat.le_refl _⟩, .inr ⟨b, 0, rfl, lt_heap h, fun j hj => ?_⟩⟩
  simp [World.cell?, h, iv, List.getD, hj]

theorem plan3 {w : World} {b0 b1 b2 b3 : Nat} {T : TypeId} {l0 l1 l2 : List Int} {n0 n1 n2 : Nat} (h0 : w.heap[b0]? = some (.cells (iv l0).toArray 3 (0, 0))) (h1 : w.heap[b1]? = some (.cells (iv l1).toArray 3 (0, 0))) (h2 : w.heap[b2]? = some (.cells (iv l2).toArray 3 (0, 0)))
    (h3 : w.heap[b3]? = some (.cells #[.slice (some ⟨b0, 0, none⟩) n0 n0, .slice (some ⟨b1, 0, none⟩) n1 n1, .slice (some ⟨b2, 0, none⟩) n2 n2] T (0, 0))) (e0 : n0 = l0.length) (e1 : n1 = l1.length) (e2 : n2 = l2.length) (hb : n0 + n1 + n2 < 1000) : PAt w (some ⟨b3, 0, none⟩) 3 [l0, l1, l2] := by
  subst e0 e1 e2
  refine ⟨rfl, by omega, .inr ⟨b3, 0, rfl, lt_heap h3, fun j hj => ?_⟩⟩
  match j, hj with
  | 0, _ => exact ⟨_, by simp [World.cell?, h3], ro_full (l := l0) h0 (by omega)⟩
  | 1, _ => exact ⟨_, by simp [World.cell?, h3], ro_full (l := l1) h1 (by omega)⟩
  | 2, _ => exact ⟨_, by simp [World.cell?, h3], ro_full (l := l2) h2 (by omega)⟩
  | j + 3, h => omega

theorem plan2 {w : World} {b0 b1 b3 : Nat} {T : TypeId} {l0 l1 : List Int} {n0 n1 : Nat} (h0 : w.heap[b0]? = some (.cells (iv l0).toArray 3 (0, 0))) (h1 : w.heap[b1]? = some (.cells (iv l1).toArray 3 (0, 0)))
    (h3 : w.heap[b3]? = some (.cells #[.slice (some ⟨b0, 0, none⟩) n0 n0, .slice (some ⟨b1, 0, none⟩) n1 n1] T (0, 0))) (e0 : n0 = l0.length) (e1 : n1 = l1.length) (hb : n0 + n1 < 1000) : PAt w (some ⟨b3, 0, none⟩) 2 [l0, l1] := by
  subst e0 e1
  refine ⟨rfl, by omega, .inr ⟨b3, 0, rfl, lt_heap h3, fun j hj => ?_⟩⟩
  match j, hj with
  | 0, _ => exact ⟨_, by simp [World.cell?, h3], ro_full (l := l0) h0 (by omega)⟩
  | 1, _ => exact ⟨_, by simp [World.cell?, h3], ro_full (l := l1) h1 (by omega)⟩
  | j + 2, h => omega

theorem ex1 : chk [[1], [], [0, 1]] = 0 := by decide +kernel
theorem ex2 : ordL [[1], [], [0, 1]] = [1, 0, 2] := by decide +kernel
theorem ex3 : deepP [[1], [], [0, 1]] = 3 := by decide +kernel
theorem ex4 : chk [[1], [0]] = 32 := by decide +kernel

set_option maxHeartbeats 4000000 in
set_option maxRecDepth 100000 in
theorem awake_any (w : World) : Calls Try.prog 7 #[] w fun e w' => e = .returned (.bool true) ∧ Below w.heap.size w w' := by
  go_enter Try.func7, Try.ntmps7
  go_upto_region 2 with fail
  have hr := rows4 w (.cells #[.int .i64 1] 3) (.cells #[] 3) (.cells #[.int .i64 0, .int .i64 1] 3) (.cells #[.slice (some ⟨w.heap.size, 0, none⟩) 1 1, .slice (some ⟨w.heap.size + 1, 0, none⟩) 0 0, .slice (some ⟨w.heap.size + 1 + 1, 0, none⟩) 2 2] 28)
  have hb := Ve.below_n4 w (.cells #[.int .i64 1] 3) (.cells #[] 3) (.cells #[.int .i64 0, .int .i64 1] 3) (.cells #[.slice (some ⟨w.heap.size, 0, none⟩) 1 1, .slice (some ⟨w.heap.size + 1, 0, none⟩) 0 0, .slice (some ⟨w.heap.size + 1 + 1, 0, none⟩) 2 2] 28)
  obtain ⟨y, hy⟩ : ∃ y, (((w.alloc (.cells #[.int .i64 1] 3)).alloc (.cells #[] 3)).alloc (.cells #[.int .i64 0, .int .i64 1] 3)).alloc (.cells #[.slice (some ⟨w.heap.size, 0, none⟩) 1 1, .slice (some ⟨w.heap.size + 1, 0, none⟩) 0 0, .slice (some ⟨w.heap.size + 1 + 1, 0, none⟩) 2 2] 28) = y := ⟨_, rfl⟩
  rw [hy] at hr hb ⊢
  clear hy
  obtain ⟨B, hB⟩ : ∃ B, B = w.heap.size := ⟨_, rfl⟩
  rw [← hB] at hr ⊢
  have HBW := Lib.hid hB
  have HB := Lib.hid hb
  have HP := Lib.hid (plan3 (l0 := [1]) (l1 := []) (l2 := [0, 1]) hr.1 hr.2.1 hr.2.2.1 hr.2.2.2 rfl rfl rfl (by omega))
  clear hb hr hB
  have ho := fun c => order_any (some ⟨B + 1 + 1 + 1, 0, none⟩) c 3 _ y rfl HP.out
  rw [ex1, ex2] at ho
  go_upto_region 3 with (go_at_call 9; refine (ho _).mono ?_; rintro e y1 ⟨⟨v, rfl, hown⟩, hb1⟩)
  have HO := Lib.hid hown
  have HB1 := Lib.hid (HB.out.trans (hb1.mono HB.out.size))
  have hbx := Ve.below_n1 y1 (.cells #[.int .i64 1, .int .i64 0, .int .i64 2] 3)
  have hS := same_any v _ [1, 0, 2] [1, 0, 2] (y1.alloc (.cells #[.int .i64 1, .int .i64 0, .int .i64 2] 3)) ((own_ro hown (by decide)).on hbx) (ro_full (l := [1, 0, 2]) (b := y1.heap.size) (heap_alloc_last y1 (.cells #[.int .i64 1, .int .i64 0, .int .i64 2] 3)) (by decide))
  rw [show decide (([1, 0, 2] : List Int) = [1, 0, 2]) = true by decide] at hS
  change Calls _ _ #[_, .slice (some ⟨y1.heap.size, 0, none⟩) 3 3] _ _ at hS
  have hPy : ∀ y2, Below (y1.alloc (.cells #[.int .i64 1, .int .i64 0, .int .i64 2] 3)).heap.size (y1.alloc (.cells #[.int .i64 1, .int .i64 0, .int .i64 2] 3)) y2 → Below w.heap.size w y2 ∧ ∀ c, Calls Try.prog 14 #[.slice (some ⟨B + 1 + 1 + 1, 0, none⟩) 3 c] y2 fun e w' => e = .returned (.int .i64 3) ∧ Below y2.heap.size y2 w' := by
    intro y2 hb2
    have h2 := (hb1.trans (hbx.mono hb1.size)).trans (hb2.mono (Nat.le_trans hb1.size hbx.size))
    refine ⟨HB.out.trans (h2.mono HB.out.size), fun c => ?_⟩
    have := deep_any (some ⟨B + 1 + 1 + 1, 0, none⟩) c 3 _ y2 rfl (HP.out.on h2)
    rw [ex3] at this
    exact this
  have hC : ∀ y3 : World, Calls Try.prog 8 #[.slice (some ⟨y3.heap.size + 1 + 1, 0, none⟩) 2 2] (((y3.alloc (.cells #[.int .i64 1] 3)).alloc (.cells #[.int .i64 0] 3)).alloc (.cells #[.slice (some ⟨y3.heap.size, 0, none⟩) 1 1, .slice (some ⟨y3.heap.size + 1, 0, none⟩) 1 1] 28)) fun e w' => e = .returned (.int .i64 32) ∧ Below y3.heap.size y3 w' := by
    intro y3
    have hr := rows3 y3 (.cells #[.int .i64 1] 3) (.cells #[.int .i64 0] 3) (.cells #[.slice (some ⟨y3.heap.size, 0, none⟩) 1 1, .slice (some ⟨y3.heap.size + 1, 0, none⟩) 1 1] 28)
    have hb := Ve.below_n3 y3 (.cells #[.int .i64 1] 3) (.cells #[.int .i64 0] 3) (.cells #[.slice (some ⟨y3.heap.size, 0, none⟩) 1 1, .slice (some ⟨y3.heap.size + 1, 0, none⟩) 1 1] 28)
    have := check_any _ 2 2 [[1], [0]] _ rfl (plan2 (l0 := [1]) (l1 := [0]) hr.1 hr.2.1 hr.2.2 rfl rfl (by omega))
    rw [ex4] at this
    exact this.mono fun e w' h => ⟨h.1, hb.trans (h.2.mono hb.size)⟩
  clear hown hb1 hbx ho HP HO
  go_wp2_with (first
    | (go_at_call 11; refine hS.mono ?_; rintro e y2 ⟨rfl, hb2⟩; obtain ⟨hB2, hD⟩ := hPy y2 hb2)
    | (go_at_call 14; refine (hD _).mono ?_; rintro e y3 ⟨rfl, hb3⟩)
    | (go_at_call 8; refine (hC y3).mono ?_; rintro e y4 ⟨rfl, hb4⟩))
  go_ret
  have hB3 := hB2.trans (hb3.mono hB2.size)
  exact ⟨rfl, hB3.trans (hb4.mono hB3.size)⟩
end Go.Proofs.Ytndpidmbfdpiaaa.Pn
