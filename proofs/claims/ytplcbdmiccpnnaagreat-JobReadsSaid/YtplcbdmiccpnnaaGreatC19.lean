/- The contract of a fold by greatest numbers. -/
import Derived.Test.YtplcbdmiccpnnaaGreatC18
import Derived.Test.YtplcbdmiccpnnaaGreatC16
namespace Go.Proofs.YtplcbdmiccpnnaaGreat.Ve
open Go.RowKit Go.Proofs.YtplcbdmiccpnnaaGreat Go.Proofs.YtplcbdmiccpnnaaGreat.Wa

theorem fold_greatest_none (ax ay az : Int) (w : World) :
    Calls Tryz.prog 95 #[V3 ax ay az, .slice none 0 0, .func (.func 97) #[] #[]] w fun e w' => e = .returned (V3 ax ay az) ∧ Below w.heap.size w w' := by
  go_enter Tryz.func95, Tryz.ntmps95
  go_wp2
  refine wp_loop_rounds 1 ?_
  rw [rounds_succ]
  go_wp2
  exact bodyPost_ret (v := V3 ax ay az) (by simp [results, Tryz.results95, go_sem]) rfl ⟨rfl, below_n2 _ _ _⟩

set_option maxHeartbeats 2000000 in
set_option maxRecDepth 100000 in
theorem fold_greatest (ax ay az : Int) (g n cap : Nat) (lx ly lz : Nat → Int) (hn : n ≤ 4611686018427387904) (w : World) (hp : Pts w g n lx ly lz) :
    Calls Tryz.prog 95 #[V3 ax ay az, .slice (some ⟨g, 0, none⟩) n cap, .func (.func 97) #[] #[]] w fun e w' => e = .returned (V3 (foldN max ax lx n) (foldN max ay ly n) (foldN max az lz n)) ∧ Below w.heap.size w w' := by
  have HP := Lib.hid hp
  clear hp
  go_enter Tryz.func95, Tryz.ntmps95
  go_wp2
  go_loopw [11] (fun i wr => ∃ k : Nat, k ≤ n ∧ i = .int .i64 k ∧ wr.cell? ⟨w.heap.size, 0, none⟩ = some (.int .i64 (foldN max ax lx k)) ∧ wr.cell? ⟨w.heap.size, 1, none⟩ = some (.int .i64 (foldN max ay ly k)) ∧ wr.cell? ⟨w.heap.size, 2, none⟩ = some (.int .i64 (foldN max az lz k)) ∧ (∀ j, wr.frozen? ⟨w.heap.size, j, none⟩ = false) ∧ (∀ j, wr.frozen? ⟨w.heap.size + 1, j, none⟩ = false) ∧ wr.cell? ⟨w.heap.size + 1, 0, none⟩ = some (.int .i64 0) ∧ wr.cell? ⟨w.heap.size + 1, 1, none⟩ = some (.int .i64 0) ∧ wr.cell? ⟨w.heap.size + 1, 2, none⟩ = some (.int .i64 0) ∧ Below w.heap.size w wr) (fun i _ => n - (intOf i).toNat)
  case atStart => exact ⟨0, Nat.zero_le _, rfl, by go_simp; rfl, by go_simp; rfl, by go_simp; rfl, fun j => by go_simp, fun j => by go_simp, by go_simp, by go_simp, by go_simp, below_n2 _ _ _⟩
  case round =>
    obtain ⟨k, hk, rfl, a0, a1, a2, af, bf, b0, b1, b2, hnx⟩ := hrel
    by_cases hlt : k < n
    · obtain ⟨e0, e1, e2⟩ := (HP.out.on hnx).2 k hlt
      have s0 := World.block_lt_of_cell? _ _ a0
      have s1 := World.block_lt_of_cell? _ _ b0
      simp only at s0 s1
      have t0 : w.heap.size < wr.heap.size + 1 := by omega
      have t1 : w.heap.size + 1 < wr.heap.size + 1 := by omega
      go_wp2_with fail
      refine (each_greatest _ _ _ _ _ _ _).mono ?_
      rintro e w1 ⟨rfl, hb⟩
      obtain ⟨hc, hf⟩ := bcell hb
      have hz := hb.size
      simp at hz
      go_wp2
      go_roundw
      case rel =>
        refine ⟨k + 1, by omega, by go_num, ?_, ?_, ?_, fun j => ?_, fun j => ?_, ?_, ?_, ?_, below_put3 ((hnx.alloc hnx.size _).trans (hb.mono (by simp; omega))) (Nat.le_refl _) _ _ _⟩
        · go_simp; rfl
        · go_simp; rfl
        · go_simp; rfl
        · go_simp
        · go_simp
        · go_simp
        · go_simp
        · go_simp
      case measure => simp [intOf]; omega
    · obtain rfl : k = n := by omega
      go_wp2
      exact bodyPost_ret (v := V3 (foldN max ax lx k) (foldN max ay ly k) (foldN max az lz k)) (by simp [results, Tryz.results95, go_sem, b0, b1, b2]) rfl ⟨rfl, below_put3 hnx (by omega) _ _ _⟩

theorem fold_greatest_v (ax ay az : Int) (v : Value) (n : Nat) (lx ly lz : Nat → Int) (hn : n ≤ 4611686018427387904) (w : World) (hp : PtsV w v n lx ly lz) :
    Calls Tryz.prog 95 #[V3 ax ay az, v, .func (.func 97) #[] #[]] w fun e w' => e = .returned (V3 (foldN max ax lx n) (foldN max ay ly n) (foldN max az lz n)) ∧ Below w.heap.size w w' := by
  rcases hp with ⟨rfl, rfl⟩ | ⟨g, cap, rfl, hp⟩
  · exact fold_greatest_none ax ay az w
  · exact fold_greatest ax ay az g n cap lx ly lz hn w hp

end Go.Proofs.YtplcbdmiccpnnaaGreat.Ve

/- The contracts of the sum, the least and the greatest of some points. -/
namespace Go.Proofs.YtplcbdmiccpnnaaGreat.Ve
open Go.RowKit Go.Proofs.YtplcbdmiccpnnaaGreat Go.Proofs.YtplcbdmiccpnnaaGreat.Wa

theorem least3_any (ax ay az : Int) (v : Value) (n : Nat) (lx ly lz : Nat → Int) (hn : n ≤ 4611686018427387904) (w : World) (hp : PtsV w v n lx ly lz) :
    Calls Tryz.prog 91 #[V3 ax ay az, v] w fun e w' => e = .returned (V3 (foldN min ax lx n) (foldN min ay ly n) (foldN min az lz n)) ∧ Below w.heap.size w w' := by
  have HP := Lib.hid hp
  clear hp
  go_enter Tryz.func91, Tryz.ntmps91
  go_wp2_with fail
  refine (fold_least_v ax ay az v n lx ly lz hn _ (HP.out.on (below_n2 _ _ _))).mono ?_
  rintro e w1 ⟨rfl, hb⟩
  obtain ⟨hc, hf⟩ := bcell hb
  have hz := hb.size
  simp at hz
  go_wp2
  exact bodyPost_ret (v := V3 (foldN min ax lx n) (foldN min ay ly n) (foldN min az lz n)) (by simp [results, Tryz.results91, go_sem, hc]) rfl ⟨rfl, below_put3 (below_c2 hb) (by omega) _ _ _⟩

theorem greatest3_any (ax ay az : Int) (v : Value) (n : Nat) (lx ly lz : Nat → Int) (hn : n ≤ 4611686018427387904) (w : World) (hp : PtsV w v n lx ly lz) :
    Calls Tryz.prog 92 #[V3 ax ay az, v] w fun e w' => e = .returned (V3 (foldN max ax lx n) (foldN max ay ly n) (foldN max az lz n)) ∧ Below w.heap.size w w' := by
  have HP := Lib.hid hp
  clear hp
  go_enter Tryz.func92, Tryz.ntmps92
  go_wp2_with fail
  refine (fold_greatest_v ax ay az v n lx ly lz hn _ (HP.out.on (below_n2 _ _ _))).mono ?_
  rintro e w1 ⟨rfl, hb⟩
  obtain ⟨hc, hf⟩ := bcell hb
  have hz := hb.size
  simp at hz
  go_wp2
  exact bodyPost_ret (v := V3 (foldN max ax lx n) (foldN max ay ly n) (foldN max az lz n)) (by simp [results, Tryz.results92, go_sem, hc]) rfl ⟨rfl, below_put3 (below_c2 hb) (by omega) _ _ _⟩

end Go.Proofs.YtplcbdmiccpnnaaGreat.Ve

/- The contracts of whether a key may be. -/
namespace Go.Proofs.YtplcbdmiccpnnaaGreat.Tk
open Go.RowKit Go.Proofs.YtplcbdmiccpnnaaGreat Go.Proofs.YtplcbdmiccpnnaaGreat.Wa Go.Proofs.YtplcbdmiccpnnaaGreat.Ve

theorem lies_yes (n a b : Int) (h : a ≤ n ∧ n ≤ b) (w : World) : Calls Tryz.prog 87 #[.int .i64 n, .int .i64 a, .int .i64 b] w fun e w' => e = .returned (.bool true) ∧ w = w' := by
  obtain ⟨h1, h2⟩ := h
  go_enter Tryz.func87, Tryz.ntmps87
  go_wp2
  go_ret
  exact ⟨rfl, rfl⟩

theorem lies_no (n a b : Int) (h : ¬ (a ≤ n ∧ n ≤ b)) (w : World) : Calls Tryz.prog 87 #[.int .i64 n, .int .i64 a, .int .i64 b] w fun e w' => e = .returned (.bool false) ∧ w = w' := by
  by_cases h1 : a ≤ n
  · have h2 : ¬ n ≤ b := fun h2 => h ⟨h1, h2⟩
    clear h
    go_enter Tryz.func87, Tryz.ntmps87
    go_wp2
    go_ret
    exact ⟨rfl, rfl⟩
  · clear h
    go_enter Tryz.func87, Tryz.ntmps87
    go_wp2
    go_ret
    exact ⟨rfl, rfl⟩

theorem lies_any (n a b : Int) (w : World) : Calls Tryz.prog 87 #[.int .i64 n, .int .i64 a, .int .i64 b] w fun e w' => e = .returned (.bool (decide (a ≤ n ∧ n ≤ b))) ∧ w = w' := by
  by_cases h : a ≤ n ∧ n ≤ b
  · rw [decide_eq_true h]; exact lies_yes n a b h w
  · rw [decide_eq_false h]; exact lies_no n a b h w

/-- the same, by what is known of the answer -/
theorem lies_is (n a b : Int) (v : Bool) (h : decide (a ≤ n ∧ n ≤ b) = v) (w : World) : Calls Tryz.prog 87 #[.int .i64 n, .int .i64 a, .int .i64 b] w fun e w' => e = .returned (.bool v) ∧ w = w' := by
  subst h; exact lies_any n a b w

set_option maxHeartbeats 2000000 in
theorem mayBe_any (t x y z : Int) (w : World) : Calls Tryz.prog 75 #[K4 t x y z] w fun e w' => e = .returned (.bool (mayB t x y z)) ∧ Below w.heap.size w w' := by
  have key : ∀ p q r s : Bool, decide (0 ≤ t ∧ t ≤ 2097152) = p → decide (-2147483648 ≤ x ∧ x ≤ 2147483648) = q → decide (-2147483648 ≤ y ∧ y ≤ 2147483648) = r → decide (-2147483648 ≤ z ∧ z ≤ 2147483648) = s →
      Calls Tryz.prog 75 #[K4 t x y z] w fun e w' => e = .returned (.bool (p && (q && (r && s)))) ∧ Below w.heap.size w w' := by
    intro p q r s hp hq hr hs
    have HP := Lib.hid hp
    have HQ := Lib.hid hq
    have HR := Lib.hid hr
    have HS := Lib.hid hs
    clear hp hq hr hs
    cases p
    · go_enter Tryz.func75, Tryz.ntmps75
      go_wp2_with (go_at_call 87; with_reducible (first | refine (lies_is _ _ _ _ HP.out _).mono ?_ | refine (lies_is _ _ _ _ HQ.out _).mono ?_ | refine (lies_is _ _ _ _ HR.out _).mono ?_ | refine (lies_is _ _ _ _ HS.out _).mono ?_); rintro e w' ⟨rfl, rfl⟩)
      go_ret
      exact ⟨rfl, below_n1 _ _⟩
    · skip
      cases q
      · go_enter Tryz.func75, Tryz.ntmps75
        go_wp2_with (go_at_call 87; with_reducible (first | refine (lies_is _ _ _ _ HP.out _).mono ?_ | refine (lies_is _ _ _ _ HQ.out _).mono ?_ | refine (lies_is _ _ _ _ HR.out _).mono ?_ | refine (lies_is _ _ _ _ HS.out _).mono ?_); rintro e w' ⟨rfl, rfl⟩)
        go_ret
        exact ⟨rfl, below_n1 _ _⟩
      · skip
        cases r
        · go_enter Tryz.func75, Tryz.ntmps75
          go_wp2_with (go_at_call 87; with_reducible (first | refine (lies_is _ _ _ _ HP.out _).mono ?_ | refine (lies_is _ _ _ _ HQ.out _).mono ?_ | refine (lies_is _ _ _ _ HR.out _).mono ?_ | refine (lies_is _ _ _ _ HS.out _).mono ?_); rintro e w' ⟨rfl, rfl⟩)
          go_ret
          exact ⟨rfl, below_n1 _ _⟩
        · skip
          cases s
          · go_enter Tryz.func75, Tryz.ntmps75
            go_wp2_with (go_at_call 87; with_reducible (first | refine (lies_is _ _ _ _ HP.out _).mono ?_ | refine (lies_is _ _ _ _ HQ.out _).mono ?_ | refine (lies_is _ _ _ _ HR.out _).mono ?_ | refine (lies_is _ _ _ _ HS.out _).mono ?_); rintro e w' ⟨rfl, rfl⟩)
            go_ret
            exact ⟨rfl, below_n1 _ _⟩
          · go_enter Tryz.func75, Tryz.ntmps75
            go_wp2_with (go_at_call 87; with_reducible (first | refine (lies_is _ _ _ _ HP.out _).mono ?_ | refine (lies_is _ _ _ _ HQ.out _).mono ?_ | refine (lies_is _ _ _ _ HR.out _).mono ?_ | refine (lies_is _ _ _ _ HS.out _).mono ?_); rintro e w' ⟨rfl, rfl⟩)
            go_ret
            exact ⟨rfl, below_n1 _ _⟩
  have := key _ _ _ _ rfl rfl rfl rfl
  rwa [show (decide (0 ≤ t ∧ t ≤ 2097152) && (decide (-2147483648 ≤ x ∧ x ≤ 2147483648) && (decide (-2147483648 ≤ y ∧ y ≤ 2147483648) && decide (-2147483648 ≤ z ∧ z ≤ 2147483648)))) = mayB t x y z by unfold mayB; simp only [Bool.decide_and]] at this
end Go.Proofs.YtplcbdmiccpnnaaGreat.Tk
