/- Scenes: the contract of whether no corner of a shape lies too far out. -/
import Derived.Test.YtplcbdmiccpnnaaGreatC33
import Derived.Test.YtplcbdmiccpnnaaGreatC15
import Derived.Deep.RegionHeld3
import Derived.StillTailTactics
namespace Go.Proofs.YtplcbdmiccpnnaaGreat.Sc
open Go.RowKit Go.Proofs.YtplcbdmiccpnnaaGreat Go.Proofs.YtplcbdmiccpnnaaGreat.Wa Go.Proofs.YtplcbdmiccpnnaaGreat.Ve Go.Proofs.YtplcbdmiccpnnaaGreat.Tk
set_option linter.unusedVariables false

theorem cor_pts1 {w : World} {g : Nat} {ax ay az : Int} (h : CorAt w g 1 #[.int .i64 ax, .int .i64 ay, .int .i64 az]) : PtsV w (.slice (some ⟨g, 0, none⟩) 1 1) 1 (fun _ => ax) (fun _ => ay) (fun _ => az) := by
  obtain ⟨t, h⟩ := h
  have hlt : g < w.heap.size := by rcases Nat.lt_or_ge g w.heap.size with hx | hx; exact hx; simp [Array.getElem?_eq_none hx] at h
  refine .inr ⟨g, 1, rfl, hlt, fun j hj => ?_⟩
  obtain rfl : j = 0 := by omega
  simp [World.cell?, h, go_sem]

theorem cor_pts3 {w : World} {g : Nat} {ax ay az bx by_ bz cx cy cz : Int} (h : CorAt w g 3 #[.int .i64 ax, .int .i64 ay, .int .i64 az, .int .i64 bx, .int .i64 by_, .int .i64 bz, .int .i64 cx, .int .i64 cy, .int .i64 cz]) :
    PtsV w (.slice (some ⟨g, 0, none⟩) 3 3) 3 (fun j => if j = 0 then ax else if j = 1 then bx else cx) (fun j => if j = 0 then ay else if j = 1 then by_ else cy) (fun j => if j = 0 then az else if j = 1 then bz else cz) := by
  obtain ⟨t, h⟩ := h
  have hlt : g < w.heap.size := by rcases Nat.lt_or_ge g w.heap.size with hx | hx; exact hx; simp [Array.getElem?_eq_none hx] at h
  refine .inr ⟨g, 3, rfl, hlt, fun j hj => ?_⟩
  match j, hj with
  | 0, _ => simp [World.cell?, h, go_sem]
  | 1, _ => simp [World.cell?, h, go_sem]
  | 2, _ => simp [World.cell?, h, go_sem]

/-- what the walk over 'near' knows -/
structure NearS (hb lb : Nat) (v : Value) (n : Nat) (lx ly lz : Nat → Int) (w0 y : World) : Prop where
  h0 : y.cell? ⟨hb, 0, none⟩ = some (.int .i64 16777216)
  h1 : y.cell? ⟨hb, 1, none⟩ = some (.int .i64 16777216)
  h2 : y.cell? ⟨hb, 2, none⟩ = some (.int .i64 16777216)
  l0 : y.cell? ⟨lb, 0, none⟩ = some (.int .i64 (-16777216))
  l1 : y.cell? ⟨lb, 1, none⟩ = some (.int .i64 (-16777216))
  l2 : y.cell? ⟨lb, 2, none⟩ = some (.int .i64 (-16777216))
  p : Hid (PtsV y v n lx ly lz)
  b : Below w0.heap.size w0 y

theorem NearS.on {hb lb : Nat} {v : Value} {n : Nat} {lx ly lz : Nat → Int} {w0 y y' : World} (h : NearS hb lb v n lx ly lz w0 y) (hy : Below y.heap.size y y') : NearS hb lb v n lx ly lz w0 y' :=
  ⟨held_on hy h.h0, held_on hy h.h1, held_on hy h.h2, held_on hy h.l0, held_on hy h.l1, held_on hy h.l2, Lib.hid (h.p.out.on hy), h.b.trans (hy.mono h.b.size)⟩

def lowB (n : Nat) (lx ly lz : Nat → Int) : Bool := decide (foldN min (-16777216) lx n = -16777216 ∧ foldN min (-16777216) ly n = -16777216 ∧ foldN min (-16777216) lz n = -16777216)

def highB (n : Nat) (lx ly lz : Nat → Int) : Bool := decide (foldN max 16777216 lx n = 16777216 ∧ foldN max 16777216 ly n = 16777216 ∧ foldN max 16777216 lz n = 16777216)

theorem neg_far : Pl.sub 0 16777216 = -16777216 := by decide

theorem Hid.mk {p : Prop} (h : p) : Hid p := Lib.hid h

set_option maxRecDepth 100000 in
set_option maxHeartbeats 4000000 in
theorem near_walk (j p k ax ay az bx by_ bz cx cy cz q : Int) (n : Nat) (lx ly lz : Nat → Int) (hn : n ≤ 4611686018427387904)
    (HC : Hid (∀ w : World, Calls Tryz.prog 90 #[X13 j p k ax ay az bx by_ bz cx cy cz q] w fun e w' => (∃ v, e = .returned v ∧ PtsV w' v n lx ly lz) ∧ Below w.heap.size w w')) (w : World) :
    Calls Tryz.prog 79 #[X13 j p k ax ay az bx by_ bz cx cy cz q] w fun e w' => e = .returned (.bool (lowB n lx ly lz && highB n lx ly lz)) ∧ Below w.heap.size w w' := by
  have key : ∀ p1 p2 : Bool, lowB n lx ly lz = p1 → highB n lx ly lz = p2 →
      Calls Tryz.prog 79 #[X13 j p k ax ay az bx by_ bz cx cy cz q] w fun e w' => e = .returned (.bool (p1 && p2)) ∧ Below w.heap.size w w' := by
    intro p1 p2 h1 h2
    have e1 : ∀ W, (Op.equalIn 10000 101 (V3 (foldN min (-16777216) lx n) (foldN min (-16777216) ly n) (foldN min (-16777216) lz n)) (V3 (-16777216) (-16777216) (-16777216))).run Tryz.prog W = .ok p1 W := fun W => by rw [eq_avec]; exact congrArg (fun b => Result.ok b W) h1
    have e2 : ∀ W, (Op.equalIn 10000 101 (V3 (foldN max 16777216 lx n) (foldN max 16777216 ly n) (foldN max 16777216 lz n)) (V3 16777216 16777216 16777216)).run Tryz.prog W = .ok p2 W := fun W => by rw [eq_avec]; exact congrArg (fun b => Result.ok b W) h2
    clear h1 h2
    cases p1
    · skip
      go_enter Tryz.func79, Tryz.ntmps79
      go_wp2_with fail
      refine (new_any _ _ _ _).mono ?_
      rintro e y1 ⟨rfl, hb1⟩
      have hN1 := below_c1 hb1
      have hz1 := hb1.size
      simp only [World.size_alloc] at hz1
      obtain ⟨hc1, hf1⟩ := bcell hb1
      have s0 : ∀ i v, (w.alloc (.cells #[.int .i64 j, .int .i64 p, .int .i64 k, .int .i64 ax, .int .i64 ay, .int .i64 az, .int .i64 bx, .int .i64 by_, .int .i64 bz, .int .i64 cx, .int .i64 cy, .int .i64 cz, .int .i64 q] 103)).cell? ⟨w.heap.size, i, none⟩ = some v → y1.cell? ⟨w.heap.size, i, none⟩ = some v := fun i v h => (hc1 _ _ (by simp)).trans h
      have g0 := s0 0 (.int .i64 j) (by simp [go_sem])
      have g1 := s0 1 (.int .i64 p) (by simp [go_sem])
      have g2 := s0 2 (.int .i64 k) (by simp [go_sem])
      have g3 := s0 3 (.int .i64 ax) (by simp [go_sem])
      have g4 := s0 4 (.int .i64 ay) (by simp [go_sem])
      have g5 := s0 5 (.int .i64 az) (by simp [go_sem])
      have g6 := s0 6 (.int .i64 bx) (by simp [go_sem])
      have g7 := s0 7 (.int .i64 by_) (by simp [go_sem])
      have g8 := s0 8 (.int .i64 bz) (by simp [go_sem])
      have g9 := s0 9 (.int .i64 cx) (by simp [go_sem])
      have g10 := s0 10 (.int .i64 cy) (by simp [go_sem])
      have g11 := s0 11 (.int .i64 cz) (by simp [go_sem])
      have g12 := s0 12 (.int .i64 q) (by simp [go_sem])
      clear s0 hc1 hf1 hb1
      go_wp2_with fail
      refine (vneg_any _ _ _ _).mono ?_
      rintro e y2 ⟨rfl, hb2⟩
      rw [neg_far]
      have h0 := held_on hb2 (show (y1.alloc (.cells #[.int .i64 16777216, .int .i64 16777216, .int .i64 16777216] 101)).cell? ⟨y1.heap.size, 0, none⟩ = some (.int .i64 16777216) by simp [go_sem])
      have h1 := held_on hb2 (show (y1.alloc (.cells #[.int .i64 16777216, .int .i64 16777216, .int .i64 16777216] 101)).cell? ⟨y1.heap.size, 1, none⟩ = some (.int .i64 16777216) by simp [go_sem])
      have h2 := held_on hb2 (show (y1.alloc (.cells #[.int .i64 16777216, .int .i64 16777216, .int .i64 16777216] 101)).cell? ⟨y1.heap.size, 2, none⟩ = some (.int .i64 16777216) by simp [go_sem])
      have hN2 := hN1.trans ((below_c1 hb2).mono (by omega))
      have hm2 := below_c1 hb2
      replace g0 := held_on hm2 g0
      replace g1 := held_on hm2 g1
      replace g2 := held_on hm2 g2
      replace g3 := held_on hm2 g3
      replace g4 := held_on hm2 g4
      replace g5 := held_on hm2 g5
      replace g6 := held_on hm2 g6
      replace g7 := held_on hm2 g7
      replace g8 := held_on hm2 g8
      replace g9 := held_on hm2 g9
      replace g10 := held_on hm2 g10
      replace g11 := held_on hm2 g11
      replace g12 := held_on hm2 g12
      have hz2 := hb2.size
      simp only [World.size_alloc] at hz2
      have hlt1 : w.heap.size < y2.heap.size := by omega
      have hne1 : w.heap.size ≠ y2.heap.size := by omega
      clear hb2 hm2 hN1
      go_wp2_with fail
      refine (HC.out _).mono ?_
      rintro e y3 ⟨⟨v, rfl, hp3⟩, hb3⟩
      have hm3 := below_c1 hb3
      have HN : Hid (NearS y1.heap.size y2.heap.size v n lx ly lz w y3) := Lib.hid ⟨held_on hm3 h0, held_on hm3 h1, held_on hm3 h2, held_on hb3 (by simp [go_sem]), held_on hb3 (by simp [go_sem]), held_on hb3 (by simp [go_sem]), Lib.hid hp3, hN2.trans (hm3.mono hN2.size)⟩
      obtain ⟨hb, hhb⟩ : ∃ b, b = y1.heap.size := ⟨_, rfl⟩
      obtain ⟨lb, hlb⟩ : ∃ b, b = y2.heap.size := ⟨_, rfl⟩
      rw [← hhb, ← hlb] at HN
      clear hp3 hb3 hm3 h0 h1 h2 hN2 g0 g1 g2 g3 g4 g5 g6 g7 g8 g9 g10 g11 g12
      go_wp2_with fail
      try rw [← hhb, ← hlb]
      clear hhb hlb
      refine wp_region_held_drew (S := fun y => NearS hb lb v n lx ly lz w y) (by kernel_rfl) (HN.out.on ((Below.refl _ _).drew)) (fun hS0 => ?_)
      refine wpAnyH_take (i := 0) (v := ?_) rfl (by kernel_rfl) (by kernel_rfl) (by kernel_rfl) (fun _ _ _ h => h) (Or.inl ⟨by kernel_rfl, by (intro wz hSz; have c0 := hSz.h0; have c1 := hSz.h1; have c2 := hSz.h2; have d0 := hSz.l0; have d1 := hSz.l1; have d2 := hSz.l2; go_simp; try with_reducible rfl)⟩) hS0 ?_
      go_simp
      refine wpAnyH_take (i := 1) (v := ?_) rfl (by kernel_rfl) (by kernel_rfl) (by kernel_rfl) (fun _ _ _ h => h) (Or.inl ⟨by kernel_rfl, by (intro wz hSz; go_simp; try with_reducible rfl)⟩) hS0 ?_
      go_simp
      refine wpAnyH_take (i := 3) (v := ?_) rfl (by kernel_rfl) (by kernel_rfl) (by kernel_rfl) (fun _ _ _ h => h) (Or.inl ⟨by kernel_rfl, by (intro wz hSz; have c0 := hSz.h0; have c1 := hSz.h1; have c2 := hSz.h2; have d0 := hSz.l0; have d1 := hSz.l1; have d2 := hSz.l2; go_simp; try with_reducible rfl)⟩) hS0 ?_
      go_simp
      refine wpAnyH_ready (rs := [2]) (by kernel_rfl) (by simp) ?_
      refine AllReadyH.cons rfl (fun K hK => ?_) AllReadyH.nil
      go_simp
      go_wp2_with (go_at_call 91; refine (least3_any _ _ _ v n lx ly lz hn _ (hS0.p.out)).mono ?_; rintro e y1 ⟨rfl, hb1⟩)
      have hT1 := hS0.on hb1
      refine hK.out _ _ (hT1) (fun hS1 => ?_)
      clear hK K
      refine wpAnyH_take (i := 4) (v := ?_) rfl (by kernel_rfl) (by kernel_rfl) (by kernel_rfl) (fun _ _ _ h => h) (Or.inl ⟨by kernel_rfl, by (intro wz hSz; go_simp; try with_reducible rfl)⟩) hS1 ?_
      go_simp
      refine wpAnyH_take (i := 5) (v := ?_) rfl (by kernel_rfl) (by kernel_rfl) (by kernel_rfl) (fun _ _ _ h => h) (Or.inl ⟨by kernel_rfl, by (intro wz hSz; go_simp; try with_reducible rfl)⟩) hS1 ?_
      go_simp
      refine wpAnyH_take (i := 6) (v := undef) rfl (by kernel_rfl) (by kernel_rfl) (by kernel_rfl) (fun _ _ _ h => h) (Or.inr ⟨by kernel_rfl, rfl⟩) hS1 ?_
      go_simp
      refine wpAnyH_take (i := 7) (v := undef) rfl (by kernel_rfl) (by kernel_rfl) (by kernel_rfl) (fun _ _ _ h => h) (Or.inr ⟨by kernel_rfl, rfl⟩) hS1 ?_
      go_simp
      refine wpAnyH_take (i := 8) (v := undef) rfl (by kernel_rfl) (by kernel_rfl) (by kernel_rfl) (fun _ _ _ h => h) (Or.inr ⟨by kernel_rfl, rfl⟩) hS1 ?_
      go_simp
      refine wpAnyH_take (i := 9) (v := undef) rfl (by kernel_rfl) (by kernel_rfl) (by kernel_rfl) (fun _ _ _ h => h) (Or.inr ⟨by kernel_rfl, rfl⟩) hS1 ?_
      go_simp
      refine wpAnyH_take (i := 10) (v := undef) rfl (by kernel_rfl) (by kernel_rfl) (by kernel_rfl) (fun _ _ _ h => h) (Or.inr ⟨by kernel_rfl, rfl⟩) hS1 ?_
      go_simp
      refine wpAnyH_take (i := 11) (v := ?_) rfl (by kernel_rfl) (by kernel_rfl) (by kernel_rfl) (fun _ _ _ h => h) (Or.inl ⟨by kernel_rfl, by (intro wz hSz; go_simp; try with_reducible rfl)⟩) hS1 ?_
      go_simp
      refine wpAnyH_take (i := 12) (v := ?_) rfl (by kernel_rfl) (by kernel_rfl) (by kernel_rfl) (fun _ _ _ h => h) (Or.inl ⟨by kernel_rfl, by (intro wz hSz; go_simp; try with_reducible rfl)⟩) hS1 ?_
      go_simp
      refine wpAnyH_done (by kernel_rfl) ?_ _
      go_wp2
      go_ret
      exact ⟨rfl, hS1.b⟩
    · skip
      go_enter Tryz.func79, Tryz.ntmps79
      go_wp2_with fail
      refine (new_any _ _ _ _).mono ?_
      rintro e y1 ⟨rfl, hb1⟩
      have hN1 := below_c1 hb1
      have hz1 := hb1.size
      simp only [World.size_alloc] at hz1
      obtain ⟨hc1, hf1⟩ := bcell hb1
      have s0 : ∀ i v, (w.alloc (.cells #[.int .i64 j, .int .i64 p, .int .i64 k, .int .i64 ax, .int .i64 ay, .int .i64 az, .int .i64 bx, .int .i64 by_, .int .i64 bz, .int .i64 cx, .int .i64 cy, .int .i64 cz, .int .i64 q] 103)).cell? ⟨w.heap.size, i, none⟩ = some v → y1.cell? ⟨w.heap.size, i, none⟩ = some v := fun i v h => (hc1 _ _ (by simp)).trans h
      have g0 := s0 0 (.int .i64 j) (by simp [go_sem])
      have g1 := s0 1 (.int .i64 p) (by simp [go_sem])
      have g2 := s0 2 (.int .i64 k) (by simp [go_sem])
      have g3 := s0 3 (.int .i64 ax) (by simp [go_sem])
      have g4 := s0 4 (.int .i64 ay) (by simp [go_sem])
      have g5 := s0 5 (.int .i64 az) (by simp [go_sem])
      have g6 := s0 6 (.int .i64 bx) (by simp [go_sem])
      have g7 := s0 7 (.int .i64 by_) (by simp [go_sem])
      have g8 := s0 8 (.int .i64 bz) (by simp [go_sem])
      have g9 := s0 9 (.int .i64 cx) (by simp [go_sem])
      have g10 := s0 10 (.int .i64 cy) (by simp [go_sem])
      have g11 := s0 11 (.int .i64 cz) (by simp [go_sem])
      have g12 := s0 12 (.int .i64 q) (by simp [go_sem])
      clear s0 hc1 hf1 hb1
      go_wp2_with fail
      refine (vneg_any _ _ _ _).mono ?_
      rintro e y2 ⟨rfl, hb2⟩
      rw [neg_far]
      have h0 := held_on hb2 (show (y1.alloc (.cells #[.int .i64 16777216, .int .i64 16777216, .int .i64 16777216] 101)).cell? ⟨y1.heap.size, 0, none⟩ = some (.int .i64 16777216) by simp [go_sem])
      have h1 := held_on hb2 (show (y1.alloc (.cells #[.int .i64 16777216, .int .i64 16777216, .int .i64 16777216] 101)).cell? ⟨y1.heap.size, 1, none⟩ = some (.int .i64 16777216) by simp [go_sem])
      have h2 := held_on hb2 (show (y1.alloc (.cells #[.int .i64 16777216, .int .i64 16777216, .int .i64 16777216] 101)).cell? ⟨y1.heap.size, 2, none⟩ = some (.int .i64 16777216) by simp [go_sem])
      have hN2 := hN1.trans ((below_c1 hb2).mono (by omega))
      have hm2 := below_c1 hb2
      replace g0 := held_on hm2 g0
      replace g1 := held_on hm2 g1
      replace g2 := held_on hm2 g2
      replace g3 := held_on hm2 g3
      replace g4 := held_on hm2 g4
      replace g5 := held_on hm2 g5
      replace g6 := held_on hm2 g6
      replace g7 := held_on hm2 g7
      replace g8 := held_on hm2 g8
      replace g9 := held_on hm2 g9
      replace g10 := held_on hm2 g10
      replace g11 := held_on hm2 g11
      replace g12 := held_on hm2 g12
      have hz2 := hb2.size
      simp only [World.size_alloc] at hz2
      have hlt1 : w.heap.size < y2.heap.size := by omega
      have hne1 : w.heap.size ≠ y2.heap.size := by omega
      clear hb2 hm2 hN1
      go_wp2_with fail
      refine (HC.out _).mono ?_
      rintro e y3 ⟨⟨v, rfl, hp3⟩, hb3⟩
      have hm3 := below_c1 hb3
      have HN : Hid (NearS y1.heap.size y2.heap.size v n lx ly lz w y3) := Lib.hid ⟨held_on hm3 h0, held_on hm3 h1, held_on hm3 h2, held_on hb3 (by simp [go_sem]), held_on hb3 (by simp [go_sem]), held_on hb3 (by simp [go_sem]), Lib.hid hp3, hN2.trans (hm3.mono hN2.size)⟩
      obtain ⟨hb, hhb⟩ : ∃ b, b = y1.heap.size := ⟨_, rfl⟩
      obtain ⟨lb, hlb⟩ : ∃ b, b = y2.heap.size := ⟨_, rfl⟩
      rw [← hhb, ← hlb] at HN
      clear hp3 hb3 hm3 h0 h1 h2 hN2 g0 g1 g2 g3 g4 g5 g6 g7 g8 g9 g10 g11 g12
      go_wp2_with fail
      try rw [← hhb, ← hlb]
      clear hhb hlb
      refine wp_region_held_drew (S := fun y => NearS hb lb v n lx ly lz w y) (by kernel_rfl) (HN.out.on ((Below.refl _ _).drew)) (fun hS0 => ?_)
      refine wpAnyH_take (i := 0) (v := ?_) rfl (by kernel_rfl) (by kernel_rfl) (by kernel_rfl) (fun _ _ _ h => h) (Or.inl ⟨by kernel_rfl, by (intro wz hSz; have c0 := hSz.h0; have c1 := hSz.h1; have c2 := hSz.h2; have d0 := hSz.l0; have d1 := hSz.l1; have d2 := hSz.l2; go_simp; try with_reducible rfl)⟩) hS0 ?_
      go_simp
      refine wpAnyH_take (i := 1) (v := ?_) rfl (by kernel_rfl) (by kernel_rfl) (by kernel_rfl) (fun _ _ _ h => h) (Or.inl ⟨by kernel_rfl, by (intro wz hSz; go_simp; try with_reducible rfl)⟩) hS0 ?_
      go_simp
      refine wpAnyH_take (i := 3) (v := ?_) rfl (by kernel_rfl) (by kernel_rfl) (by kernel_rfl) (fun _ _ _ h => h) (Or.inl ⟨by kernel_rfl, by (intro wz hSz; have c0 := hSz.h0; have c1 := hSz.h1; have c2 := hSz.h2; have d0 := hSz.l0; have d1 := hSz.l1; have d2 := hSz.l2; go_simp; try with_reducible rfl)⟩) hS0 ?_
      go_simp
      refine wpAnyH_ready (rs := [2]) (by kernel_rfl) (by simp) ?_
      refine AllReadyH.cons rfl (fun K hK => ?_) AllReadyH.nil
      go_simp
      go_wp2_with (go_at_call 91; refine (least3_any _ _ _ v n lx ly lz hn _ (hS0.p.out)).mono ?_; rintro e y1 ⟨rfl, hb1⟩)
      have hT1 := hS0.on hb1
      refine hK.out _ _ (hT1) (fun hS1 => ?_)
      clear hK K
      refine wpAnyH_take (i := 4) (v := ?_) rfl (by kernel_rfl) (by kernel_rfl) (by kernel_rfl) (fun _ _ _ h => h) (Or.inl ⟨by kernel_rfl, by (intro wz hSz; go_simp; try with_reducible rfl)⟩) hS1 ?_
      go_simp
      refine wpAnyH_take (i := 5) (v := ?_) rfl (by kernel_rfl) (by kernel_rfl) (by kernel_rfl) (fun _ _ _ h => h) (Or.inl ⟨by kernel_rfl, by (intro wz hSz; go_simp; try with_reducible rfl)⟩) hS1 ?_
      go_simp
      refine wpAnyH_take (i := 6) (v := ?_) rfl (by kernel_rfl) (by kernel_rfl) (by kernel_rfl) (fun _ _ _ h => h) (Or.inl ⟨by kernel_rfl, by (intro wz hSz; have c0 := hSz.h0; have c1 := hSz.h1; have c2 := hSz.h2; have d0 := hSz.l0; have d1 := hSz.l1; have d2 := hSz.l2; go_simp; try with_reducible rfl)⟩) hS1 ?_
      go_simp
      refine wpAnyH_take (i := 7) (v := ?_) rfl (by kernel_rfl) (by kernel_rfl) (by kernel_rfl) (fun _ _ _ h => h) (Or.inl ⟨by kernel_rfl, by (intro wz hSz; go_simp; try with_reducible rfl)⟩) hS1 ?_
      go_simp
      refine wpAnyH_take (i := 9) (v := ?_) rfl (by kernel_rfl) (by kernel_rfl) (by kernel_rfl) (fun _ _ _ h => h) (Or.inl ⟨by kernel_rfl, by (intro wz hSz; have c0 := hSz.h0; have c1 := hSz.h1; have c2 := hSz.h2; have d0 := hSz.l0; have d1 := hSz.l1; have d2 := hSz.l2; go_simp; try with_reducible rfl)⟩) hS1 ?_
      go_simp
      refine wpAnyH_ready (rs := [8]) (by kernel_rfl) (by simp) ?_
      refine AllReadyH.cons rfl (fun K hK => ?_) AllReadyH.nil
      go_simp
      go_wp2_with (go_at_call 92; refine (greatest3_any _ _ _ v n lx ly lz hn _ (hS1.p.out)).mono ?_; rintro e y2 ⟨rfl, hb2⟩)
      have hT2 := hS1.on hb2
      refine hK.out _ _ (hT2) (fun hS2 => ?_)
      clear hK K
      refine wpAnyH_take (i := 10) (v := ?_) rfl (by kernel_rfl) (by kernel_rfl) (by kernel_rfl) (fun _ _ _ h => h) (Or.inl ⟨by kernel_rfl, by (intro wz hSz; go_simp; try with_reducible rfl)⟩) hS2 ?_
      go_simp
      refine wpAnyH_take (i := 11) (v := ?_) rfl (by kernel_rfl) (by kernel_rfl) (by kernel_rfl) (fun _ _ _ h => h) (Or.inl ⟨by kernel_rfl, by (intro wz hSz; go_simp; try with_reducible rfl)⟩) hS2 ?_
      go_simp
      refine wpAnyH_take (i := 12) (v := ?_) rfl (by kernel_rfl) (by kernel_rfl) (by kernel_rfl) (fun _ _ _ h => h) (Or.inl ⟨by kernel_rfl, by (intro wz hSz; go_simp; try with_reducible rfl)⟩) hS2 ?_
      go_simp
      refine wpAnyH_done (by kernel_rfl) ?_ _
      go_wp2
      go_ret
      exact ⟨rfl, hS2.b⟩
  exact key _ _ rfl rfl

end Go.Proofs.YtplcbdmiccpnnaaGreat.Sc
