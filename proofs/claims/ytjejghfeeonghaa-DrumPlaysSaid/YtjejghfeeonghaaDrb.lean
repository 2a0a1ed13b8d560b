/- Layer 23: the small calls of a device, by the program. -/
import Derived.Test.YtjejghfeeonghaaDra
namespace Go.Proofs.Ytjejghfeeonghaa.Dr
open Go Go.RowKit Go.Maps Go.Proofs.Ytjejghfeeonghaa Go.Proofs.Ytjejghfeeonghaa.Au Go.Proofs.Ytjejghfeeonghaa.Re
set_option linter.unusedVariables false
set_option linter.unusedSimpArgs false

def eReady (s : Dst) : Int := if s.down then 5 else 0

def eAt (s : Dst) (k : Int) : Int := if s.down then 5 else if 0 ≤ k ∧ k < s.n then 0 else 1

def eStep (s : Dst) : Int := if s.fuse = 0 then 5 else 0

def stepS (s : Dst) : Dst := if s.fuse = 0 then { s with down := true } else { s with fuse := if 0 < s.fuse then s.fuse - 1 else s.fuse, steps := s.steps + 1 }

/-- numbers that a device may hold -/
def Fine (s : Dst) : Prop := 0 ≤ s.steps ∧ s.steps < 4000000000000000000 ∧ -9223372036854775808 ≤ s.fuse ∧ s.fuse < 9223372036854775808

theorem row_free' {w : World} {g : Nat} {cs : Array Value} {T : TypeId} (h : w.heap[g]? = some (.cells cs T (0, 0))) (j : Nat) : w.frozen? ⟨g, j, none⟩ = false := by simp [World.frozen?, h]

theorem DAt.turn {w : World} {g b m : Nat} {s s' : Dst} (h : DAt w g b m s) (j : Nat) (v : Value) (hn : s'.n = s.n) (hL : s'.L = s.L) (hM : s'.M = s.M)
    (hc : (#[.int .i64 s.n, .int .i64 s.steps, .int .i64 s.fuse, .bool s.down, .slice (some ⟨b, 0, none⟩) s.n s.n, .map (some m)] : Array Value).setIfInBounds j v = #[.int .i64 s'.n, .int .i64 s'.steps, .int .i64 s'.fuse, .bool s'.down, .slice (some ⟨b, 0, none⟩) s'.n s'.n, .map (some m)]) :
    DAt (w.setCell ⟨g, j, none⟩ v) g b m s' :=
  ⟨by rw [heap_setCell_same w g j _ _ v h.dev, hc], by rw [hL]; exact (Below.heap_setCell _ _ _ _ (Ne.symm h.ne.1)).trans h.las, by rw [hM]; exact map_keep h.loose (Below.heap_setCell _ _ _ _ (Ne.symm h.ne.2.1)), by rw [hn, hL]; exact h.len, by rw [hn]; exact h.n0, by rw [hL]; exact h.b128, by rw [hM, hn]; exact h.m128, by rw [hM]; exact h.up, by rw [hM, hn]; exact h.mlen⟩

theorem ready_any (g b m : Nat) (s : Dst) (w : World) (h : DAt w g b m s) : Calls Try.prog 27 #[.pointer (some ⟨g, 0, none⟩)] w fun e w' => e = .returned (.int .i64 (eReady s)) ∧ w = w' := by
  obtain ⟨n, st, fu, dn, L, M⟩ := s
  have c3 := cell_of_row _ _ 3 _ _ _ h.dev
  simp at c3
  clear h
  cases dn
  · go_enter Try.func27, Try.ntmps27
    go_wp2_with fail
    go_ret
    exact ⟨rfl, rfl⟩
  · go_enter Try.func27, Try.ntmps27
    go_wp2_with fail
    go_ret
    exact ⟨rfl, rfl⟩

theorem ready_nil (w : World) : Calls Try.prog 27 #[.pointer none] w fun e w' => e = .returned (.int .i64 2) ∧ w = w' := by
  go_enter Try.func27, Try.ntmps27
  go_wp2_with fail
  go_ret
  exact ⟨rfl, rfl⟩

theorem has_any (g b m : Nat) (s : Dst) (w : World) (h : DAt w g b m s) (k : Int) : Calls Try.prog 33 #[.pointer (some ⟨g, 0, none⟩), .int .i64 k] w fun e w' => e = .returned (.bool (decide (0 ≤ k ∧ k < s.n))) ∧ w = w' := by
  obtain ⟨n, st, fu, dn, L, M⟩ := s
  have c0 := cell_of_row _ _ 0 _ _ _ h.dev
  simp at c0
  clear h
  by_cases h1 : 0 ≤ k
  · by_cases h2 : k < n
    · have d1 : decide (0 ≤ k) = true := by simp [h1]
      have d2 : decide (k < (n : Int)) = true := by simp [h2]
      go_enter Try.func33, Try.ntmps33
      go_wp2_with fail
      go_ret
      exact ⟨by simp [h1, h2], rfl⟩
    · have d1 : decide (0 ≤ k) = true := by simp [h1]
      have d2 : decide (k < (n : Int)) = false := by simp; omega
      go_enter Try.func33, Try.ntmps33
      go_wp2_with fail
      go_ret
      exact ⟨by simp [h1, h2], rfl⟩
  · have d1 : decide (0 ≤ k) = false := by simp; omega
    go_enter Try.func33, Try.ntmps33
    go_wp2_with fail
    go_ret
    exact ⟨by simp [h1], rfl⟩

theorem readyAt_any (g b m : Nat) (s : Dst) (w : World) (h : DAt w g b m s) (k : Int) : Calls Try.prog 24 #[.pointer (some ⟨g, 0, none⟩), .int .i64 k] w fun e w' => e = .returned (.int .i64 (eAt s k)) ∧ w = w' := by
  have HD := Lib.hid h
  clear h
  by_cases hd : s.down = true
  · have hr : eReady s = 5 := by simp [eReady, hd]
    have ha : eAt s k = 5 := by simp [eAt, hd]
    rw [ha]
    go_enter Try.func24, Try.ntmps24
    go_wp2_with fail
    refine (ready_any g b m s w HD.out).mono ?_
    rintro e w1 ⟨rfl, rfl⟩
    rw [hr]
    go_wp2_with fail
    go_ret
    exact ⟨rfl, rfl⟩
  · have hd' : s.down = false := by simpa using hd
    have hr : eReady s = 0 := by simp [eReady, hd']
    by_cases hk : 0 ≤ k ∧ k < s.n
    · have ha : eAt s k = 0 := by simp [eAt, hd', hk]
      have hb : decide (0 ≤ k ∧ k < (s.n : Int)) = true := by simp [hk]
      rw [ha]
      go_enter Try.func24, Try.ntmps24
      go_wp2_with fail
      refine (ready_any g b m s w HD.out).mono ?_
      rintro e w1 ⟨rfl, rfl⟩
      rw [hr]
      go_wp2_with fail
      refine (has_any g b m s w HD.out k).mono ?_
      rintro e w1 ⟨rfl, rfl⟩
      rw [hb]
      go_wp2_with fail
      go_ret
      exact ⟨rfl, rfl⟩
    · have ha : eAt s k = 1 := by unfold eAt; rw [hd', if_neg (by simp), if_neg hk]
      have hb : decide (0 ≤ k ∧ k < (s.n : Int)) = false := by simpa using hk
      rw [ha]
      go_enter Try.func24, Try.ntmps24
      go_wp2_with fail
      refine (ready_any g b m s w HD.out).mono ?_
      rintro e w1 ⟨rfl, rfl⟩
      rw [hr]
      go_wp2_with fail
      refine (has_any g b m s w HD.out k).mono ?_
      rintro e w1 ⟨rfl, rfl⟩
      rw [hb]
      go_wp2_with fail
      go_ret
      exact ⟨rfl, rfl⟩

theorem readyAt_nil (k : Int) (w : World) : Calls Try.prog 24 #[.pointer none, .int .i64 k] w fun e w' => e = .returned (.int .i64 2) ∧ w = w' := by
  go_enter Try.func24, Try.ntmps24
  go_wp2_with fail
  refine (ready_nil w).mono ?_
  rintro e w1 ⟨rfl, rfl⟩
  go_wp2_with fail
  go_ret
  exact ⟨rfl, rfl⟩

set_option maxHeartbeats 1000000 in
theorem step_any (g b m : Nat) (s : Dst) (w : World) (h : DAt w g b m s) (hf : Fine s) : Calls Try.prog 26 #[.pointer (some ⟨g, 0, none⟩)] w fun e w' => e = .returned (.int .i64 (eStep s)) ∧ DAt w' g b m (stepS s) ∧ Aw (fun k => k ≠ g) w w' := by
  have HD := Lib.hid h
  obtain ⟨n, st, fu, dn, L, M⟩ := s
  obtain ⟨f1, f2, f3, f4⟩ := hf
  dsimp only at f1 f2 f3 f4
  have c1 := cell_of_row _ _ 1 _ _ _ h.dev
  have c2 := cell_of_row _ _ 2 _ _ _ h.dev
  have c3 := cell_of_row _ _ 3 _ _ _ h.dev
  simp at c1 c2 c3
  have fz := row_free' h.dev
  clear h
  by_cases h0 : fu = 0
  · have hs : stepS ⟨n, st, fu, dn, L, M⟩ = ⟨n, st, fu, true, L, M⟩ := by simp [stepS, h0]
    have he : eStep ⟨n, st, fu, dn, L, M⟩ = 5 := by simp [eStep, h0]
    have HK := Lib.hid (show DAt (w.setCell ⟨g, 3, none⟩ (.bool true)) g b m ⟨n, st, fu, true, L, M⟩ from HD.out.turn 3 (.bool true) rfl rfl rfl rfl)
    have HA := Lib.hid ((Aw.refl (fun k => k ≠ g) w).set (b := g) (by simp) 3 (.bool true))
    rw [hs, he]
    clear hs he
    have d0 : (fu == 0) = true := by simp [h0]
    have HZ := Lib.hid h0
    clear h0
    go_enter Try.func26, Try.ntmps26
    go_wp2_with fail
    go_ret
    exact ⟨rfl, HK.out, HA.out⟩
  · have d0 : (fu == 0) = false := by simp [h0]
    by_cases h1 : 0 < fu
    · have hs : stepS ⟨n, st, fu, dn, L, M⟩ = ⟨n, st + 1, fu - 1, dn, L, M⟩ := by simp [stepS, h0, h1]
      have he : eStep ⟨n, st, fu, dn, L, M⟩ = 0 := by simp [eStep, h0]
      have HK1 := HD.out.turn (s' := ⟨n, st, fu - 1, dn, L, M⟩) 2 (.int .i64 (fu - 1)) rfl rfl rfl rfl
      have HK := Lib.hid (show DAt ((w.setCell ⟨g, 2, none⟩ (.int .i64 (fu - 1))).setCell ⟨g, 1, none⟩ (.int .i64 (st + 1))) g b m ⟨n, st + 1, fu - 1, dn, L, M⟩ from HK1.turn 1 (.int .i64 (st + 1)) rfl rfl rfl rfl)
      have HA := Lib.hid (((Aw.refl (fun k => k ≠ g) w).set (b := g) (by simp) 2 (.int .i64 (fu - 1))).set (b := g) (by simp) 1 (.int .i64 (st + 1)))
      have w1 : IntKind.i64.wrap (fu - 1) = fu - 1 := by rw [IntKind.wrap_i64]; omega
      have w2 : IntKind.i64.wrap (st + 1) = st + 1 := by rw [IntKind.wrap_i64]; omega
      rw [hs, he]
      clear hs he HK1
      go_enter Try.func26, Try.ntmps26
      go_wp2_with fail
      go_ret
      exact ⟨rfl, HK.out, HA.out⟩
    · have hs : stepS ⟨n, st, fu, dn, L, M⟩ = ⟨n, st + 1, fu, dn, L, M⟩ := by simp [stepS, h0, h1]
      have he : eStep ⟨n, st, fu, dn, L, M⟩ = 0 := by simp [eStep, h0]
      have HK := Lib.hid (show DAt (w.setCell ⟨g, 1, none⟩ (.int .i64 (st + 1))) g b m ⟨n, st + 1, fu, dn, L, M⟩ from HD.out.turn 1 (.int .i64 (st + 1)) rfl rfl rfl rfl)
      have HA := Lib.hid ((Aw.refl (fun k => k ≠ g) w).set (b := g) (by simp) 1 (.int .i64 (st + 1)))
      have w2 : IntKind.i64.wrap (st + 1) = st + 1 := by rw [IntKind.wrap_i64]; omega
      rw [hs, he]
      clear hs he
      go_enter Try.func26, Try.ntmps26
      go_wp2_with fail
      go_ret
      exact ⟨rfl, HK.out, HA.out⟩

def startS (s : Dst) : Dst := { s with down := false, fuse := -1 }

theorem start_any (g b m : Nat) (s : Dst) (w : World) (h : DAt w g b m s) : Calls Try.prog 28 #[.pointer (some ⟨g, 0, none⟩)] w fun e w' => e = .returned (.tuple #[]) ∧ DAt w' g b m (startS s) ∧ Aw (fun k => k ≠ g) w w' := by
  have HD := Lib.hid h
  obtain ⟨n, st, fu, dn, L, M⟩ := s
  have c2 := cell_of_row _ _ 2 _ _ _ h.dev
  have c3 := cell_of_row _ _ 3 _ _ _ h.dev
  simp at c2 c3
  have fz := row_free' h.dev
  clear h
  have HK1 := HD.out.turn (s' := ⟨n, st, fu, false, L, M⟩) 3 (.bool false) rfl rfl rfl rfl
  have HK := Lib.hid (show DAt ((w.setCell ⟨g, 3, none⟩ (.bool false)).setCell ⟨g, 2, none⟩ (.int .i64 (-1))) g b m (startS ⟨n, st, fu, dn, L, M⟩) from HK1.turn 2 (.int .i64 (-1)) rfl rfl rfl rfl)
  have HA := Lib.hid (((Aw.refl (fun k => k ≠ g) w).set (b := g) (by simp) 3 (.bool false)).set (b := g) (by simp) 2 (.int .i64 (-1)))
  clear HK1
  go_enter Try.func28, Try.ntmps28
  go_wp2_with fail
  go_end0
  exact ⟨rfl, HK.out, HA.out⟩

theorem blocks_any (g b m : Nat) (s : Dst) (w : World) (h : DAt w g b m s) : Calls Try.prog 17 #[.pointer (some ⟨g, 0, none⟩)] w fun e w' => e = .returned (.int .i64 s.n) ∧ w = w' := by
  obtain ⟨n, st, fu, dn, L, M⟩ := s
  have c0 := cell_of_row _ _ 0 _ _ _ h.dev
  simp at c0
  clear h
  go_enter Try.func17, Try.ntmps17
  go_wp2_with fail
  go_ret
  exact ⟨rfl, rfl⟩

theorem blocks_nil (w : World) : Calls Try.prog 17 #[.pointer none] w fun e w' => e = .returned (.int .i64 0) ∧ w = w' := by
  go_enter Try.func17, Try.ntmps17
  go_wp2_with fail
  go_ret
  exact ⟨rfl, rfl⟩

theorem steps_any (g b m : Nat) (s : Dst) (w : World) (h : DAt w g b m s) : Calls Try.prog 19 #[.pointer (some ⟨g, 0, none⟩)] w fun e w' => e = .returned (.int .i64 s.steps) ∧ w = w' := by
  obtain ⟨n, st, fu, dn, L, M⟩ := s
  have c1 := cell_of_row _ _ 1 _ _ _ h.dev
  simp at c1
  clear h
  go_enter Try.func19, Try.ntmps19
  go_wp2_with fail
  go_ret
  exact ⟨rfl, rfl⟩

theorem steps_nil (w : World) : Calls Try.prog 19 #[.pointer none] w fun e w' => e = .returned (.int .i64 0) ∧ w = w' := by
  go_enter Try.func19, Try.ntmps19
  go_wp2_with fail
  go_ret
  exact ⟨rfl, rfl⟩

theorem down_any (g b m : Nat) (s : Dst) (w : World) (h : DAt w g b m s) : Calls Try.prog 20 #[.pointer (some ⟨g, 0, none⟩)] w fun e w' => e = .returned (.bool s.down) ∧ w = w' := by
  obtain ⟨n, st, fu, dn, L, M⟩ := s
  have c3 := cell_of_row _ _ 3 _ _ _ h.dev
  simp at c3
  clear h
  go_enter Try.func20, Try.ntmps20
  go_wp2_with fail
  go_ret
  exact ⟨rfl, rfl⟩

theorem down_nil (w : World) : Calls Try.prog 20 #[.pointer none] w fun e w' => e = .returned (.bool false) ∧ w = w' := by
  go_enter Try.func20, Try.ntmps20
  go_wp2_with fail
  go_ret
  exact ⟨rfl, rfl⟩

theorem fuse_any (g b m : Nat) (s : Dst) (w : World) (h : DAt w g b m s) (k : Int) : Calls Try.prog 15 #[.pointer (some ⟨g, 0, none⟩), .int .i64 k] w fun e w' => e = .returned (.int .i64 (eReady s)) ∧ DAt w' g b m (if s.down then s else { s with fuse := k }) ∧ Aw (fun k => k ≠ g) w w' := by
  have HD := Lib.hid h
  obtain ⟨n, st, fu, dn, L, M⟩ := s
  have c2 := cell_of_row _ _ 2 _ _ _ h.dev
  have c3 := cell_of_row _ _ 3 _ _ _ h.dev
  simp at c2 c3
  have fz := row_free' h.dev
  clear h
  have hr : eReady ⟨n, st, fu, dn, L, M⟩ = if dn then 5 else 0 := rfl
  cases dn
  · have HK := Lib.hid (show DAt (w.setCell ⟨g, 2, none⟩ (.int .i64 k)) g b m ⟨n, st, k, false, L, M⟩ from HD.out.turn 2 (.int .i64 k) rfl rfl rfl rfl)
    have HA := Lib.hid ((Aw.refl (fun k => k ≠ g) w).set (b := g) (by simp) 2 (.int .i64 k))
    go_enter Try.func15, Try.ntmps15
    go_wp2_with fail
    refine (ready_any g b m _ w HD.out).mono ?_
    rintro e w1 ⟨rfl, rfl⟩
    rw [hr]
    go_wp2_with fail
    go_ret
    exact ⟨rfl, HK.out, HA.out⟩
  · go_enter Try.func15, Try.ntmps15
    go_wp2_with fail
    refine (ready_any g b m _ w HD.out).mono ?_
    rintro e w1 ⟨rfl, rfl⟩
    rw [hr]
    go_wp2_with fail
    go_ret
    exact ⟨rfl, HD.out, Aw.refl _ _⟩

theorem fuse_nil (k : Int) (w : World) : Calls Try.prog 15 #[.pointer none, .int .i64 k] w fun e w' => e = .returned (.int .i64 2) ∧ w = w' := by
  go_enter Try.func15, Try.ntmps15
  go_wp2_with fail
  refine (ready_nil w).mono ?_
  rintro e w1 ⟨rfl, rfl⟩
  go_wp2_with fail
  go_ret
  exact ⟨rfl, rfl⟩

theorem sync_nil (w : World) : Calls Try.prog 14 #[.pointer none] w fun e w' => e = .returned (.int .i64 2) ∧ w = w' := by
  go_enter Try.func14, Try.ntmps14
  go_wp2_with fail
  refine (ready_nil w).mono ?_
  rintro e w1 ⟨rfl, rfl⟩
  go_wp2_with fail
  go_ret
  exact ⟨rfl, rfl⟩

theorem crash_nil (v : Value) (w : World) : Calls Try.prog 16 #[.pointer none, v] w fun e w' => e = .returned (.int .i64 2) ∧ w = w' := by
  go_enter Try.func16, Try.ntmps16
  go_wp2_with fail
  go_ret
  exact ⟨rfl, rfl⟩

theorem loose_nil (w : World) : Calls Try.prog 18 #[.pointer none] w fun e w' => e = .returned (.slice none 0 0) ∧ w = w' := by
  go_enter Try.func18, Try.ntmps18
  go_wp2_with fail
  go_ret
  exact ⟨rfl, rfl⟩

end Go.Proofs.Ytjejghfeeonghaa.Dr
