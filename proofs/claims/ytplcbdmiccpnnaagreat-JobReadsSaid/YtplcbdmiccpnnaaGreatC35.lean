/- Scenes: the contracts of whether joints, shapes, a lens may be. -/
import Derived.Test.YtplcbdmiccpnnaaGreatC34
namespace Go.Proofs.YtplcbdmiccpnnaaGreat.Sc
open Go.RowKit Go.Proofs.YtplcbdmiccpnnaaGreat Go.Proofs.YtplcbdmiccpnnaaGreat.Wa Go.Proofs.YtplcbdmiccpnnaaGreat.Ve Go.Proofs.YtplcbdmiccpnnaaGreat.Tk
set_option linter.unusedVariables false

theorem min_lo (a : Int) : min (-16777216) a = -16777216 ↔ -16777216 ≤ a := by
  rw [Int.min_def]; split <;> omega

theorem max_hi (a : Int) : max 16777216 a = 16777216 ↔ a ≤ 16777216 := by
  rw [Int.max_def]; split <;> omega

theorem min_lo3 (a b c : Int) : min (min (min (-16777216) a) b) c = -16777216 ↔ -16777216 ≤ a ∧ -16777216 ≤ b ∧ -16777216 ≤ c := by
  rw [Int.min_def, Int.min_def, Int.min_def]; split <;> (try split) <;> (try split) <;> omega

theorem max_hi3 (a b c : Int) : max (max (max 16777216 a) b) c = 16777216 ↔ a ≤ 16777216 ∧ b ≤ 16777216 ∧ c ≤ 16777216 := by
  rw [Int.max_def, Int.max_def, Int.max_def]; split <;> (try split) <;> (try split) <;> omega

theorem near_ball_b (ax ay az : Int) : (lowB 1 (fun _ => ax) (fun _ => ay) (fun _ => az) && highB 1 (fun _ => ax) (fun _ => ay) (fun _ => az)) = pointB ax ay az := by
  rw [Bool.eq_iff_iff]
  simp only [lowB, highB, pointB, inB, foldN, Bool.and_eq_true, decide_eq_true_eq, min_lo, max_hi]
  omega

theorem near_face_b (ax ay az bx by_ bz cx cy cz : Int) : (lowB 3 (fun j => if j = 0 then ax else if j = 1 then bx else cx) (fun j => if j = 0 then ay else if j = 1 then by_ else cy) (fun j => if j = 0 then az else if j = 1 then bz else cz) &&
    highB 3 (fun j => if j = 0 then ax else if j = 1 then bx else cx) (fun j => if j = 0 then ay else if j = 1 then by_ else cy) (fun j => if j = 0 then az else if j = 1 then bz else cz)) = (pointB ax ay az && (pointB bx by_ bz && pointB cx cy cz)) := by
  rw [Bool.eq_iff_iff]
  simp only [lowB, highB, pointB, inB, foldN, Bool.and_eq_true, decide_eq_true_eq, if_true, Nat.one_ne_zero, if_false, show ¬ (2 : Nat) = 0 by decide, show ¬ (2 : Nat) = 1 by decide, min_lo3, max_hi3]
  constructor
  · rintro ⟨⟨⟨h1, h2, h3⟩, ⟨h4, h5, h6⟩, ⟨h7, h8, h9⟩⟩, ⟨g1, g2, g3⟩, ⟨g4, g5, g6⟩, ⟨g7, g8, g9⟩⟩
    exact ⟨⟨⟨⟨h1, g1⟩, h4, g4⟩, h7, g7⟩, ⟨⟨⟨h2, g2⟩, h5, g5⟩, h8, g8⟩, ⟨⟨h3, g3⟩, h6, g6⟩, h9, g9⟩
  · rintro ⟨⟨⟨⟨h1, g1⟩, h4, g4⟩, h7, g7⟩, ⟨⟨⟨h2, g2⟩, h5, g5⟩, h8, g8⟩, ⟨⟨h3, g3⟩, h6, g6⟩, h9, g9⟩
    exact ⟨⟨⟨h1, h2, h3⟩, ⟨h4, h5, h6⟩, ⟨h7, h8, h9⟩⟩, ⟨g1, g2, g3⟩, ⟨g4, g5, g6⟩, ⟨g7, g8, g9⟩⟩

def nearB (k ax ay az bx by_ bz cx cy cz : Int) : Bool := if k = 0 then pointB ax ay az else pointB ax ay az && (pointB bx by_ bz && pointB cx cy cz)

theorem near_is (j p k ax ay az bx by_ bz cx cy cz q : Int) (v : Bool) (h : nearB k ax ay az bx by_ bz cx cy cz = v) (w : World) :
    Calls Tryz.prog 79 #[X13 j p k ax ay az bx by_ bz cx cy cz q] w fun e w' => e = .returned (.bool v) ∧ Below w.heap.size w w' := by
  subst h
  by_cases h0 : k = 0
  · subst h0
    have e : nearB 0 ax ay az bx by_ bz cx cy cz = pointB ax ay az := by simp [nearB]
    rw [e, ← near_ball_b]
    refine near_walk j p 0 ax ay az bx by_ bz cx cy cz q 1 _ _ _ (by omega) (Lib.hid fun w => (corners_ball j p ax ay az bx by_ bz cx cy cz q w).mono ?_) w
    rintro e w' ⟨⟨g, rfl, hc, -⟩, hb⟩
    exact ⟨⟨_, rfl, cor_pts1 hc⟩, hb⟩
  · have e : nearB k ax ay az bx by_ bz cx cy cz = (pointB ax ay az && (pointB bx by_ bz && pointB cx cy cz)) := by simp [nearB, h0]
    rw [e, ← near_face_b]
    refine near_walk j p k ax ay az bx by_ bz cx cy cz q 3 _ _ _ (by omega) (Lib.hid fun w => (corners_face j p k ax ay az bx by_ bz cx cy cz q h0 w).mono ?_) w
    rintro e w' ⟨⟨g, rfl, hc, -⟩, hb⟩
    exact ⟨⟨_, rfl, cor_pts3 hc⟩, hb⟩

theorem shape_b (nj np : Nat) (L : Nat → Int) : (inB (L 0) (-1) ((nj : Int) - 1) && (inB (L 1) 0 ((np : Int) - 1) && (formB (L 2) (L 6) (L 7) (L 8) (L 9) (L 10) (L 11) (L 12) && nearB (L 2) (L 3) (L 4) (L 5) (L 6) (L 7) (L 8) (L 9) (L 10) (L 11)))) = shapeB nj np L := by
  unfold shapeB formB nearB ballB
  by_cases h0 : L 2 = 0
  · simp only [h0, if_true]
    cases inB (L 0) (-1) ((nj : Int) - 1) <;> cases inB (L 1) 0 ((np : Int) - 1) <;> cases pointB (L 3) (L 4) (L 5) <;> cases inB (L 12) 1 4194304 <;> simp
    grind
  · simp only [h0, if_false]
    cases inB (L 0) (-1) ((nj : Int) - 1) <;> cases inB (L 1) 0 ((np : Int) - 1) <;> cases pointB (L 3) (L 4) (L 5) <;> cases pointB (L 6) (L 7) (L 8) <;> cases pointB (L 9) (L 10) (L 11) <;> simp

set_option maxHeartbeats 4000000 in
set_option maxRecDepth 100000 in
theorem joint_row (s : Scn) (a : Pla) (b off i : Nat) (y0 y1 y2 y3 : Int) (hja : a.ja = some ⟨b, off, none⟩) (hi : i < s.nj) (hnj : s.nj ≤ 4611686018427387904) (w : World) (hb : b < w.heap.size) (HF : Hid (w.cell? ⟨b, off + i * 4, none⟩ = some (.int .i64 (y0)) ∧ w.cell? ⟨b, off + i * 4 + 1, none⟩ = some (.int .i64 (y1)) ∧ w.cell? ⟨b, off + i * 4 + 2, none⟩ = some (.int .i64 (y2)) ∧ w.cell? ⟨b, off + i * 4 + 3, none⟩ = some (.int .i64 (y3)))) : Calls Tryz.prog 47 #[SV s a, .int .i64 i] w fun e w' => e = .returned (.bool (jointB i s.nt y0 y1 y2 y3)) ∧ Below w.heap.size w w' := by
  have key : ∀ p0 p1 p2 p3 : Bool, inB y0 (-1) ((i : Int) - 1) = p0 → inB y1 (-1) ((s.nt : Int) - 1) = p1 → inB y2 (-1) ((s.nt : Int) - 1) = p2 → inB y3 1 4194304 = p3 → Calls Tryz.prog 47 #[SV s a, .int .i64 i] w fun e w' => e = .returned (.bool (p0 && (p1 && (p2 && p3)))) ∧ Below w.heap.size w w' := by
    intro p0 p1 p2 p3 h0 h1 h2 h3
    have H0 := Lib.hid h0
    clear h0
    have H1 := Lib.hid h1
    clear h1
    have H2 := Lib.hid h2
    clear h2
    have H3 := Lib.hid h3
    clear h3
    cases p0
    · skip
      obtain ⟨pa, pc, ta, tc, ja, jc, sa, sc⟩ := a
      simp only at hja
      subst hja
      go_enter Tryz.func47, Tryz.ntmps47
      obtain ⟨f0, f1, f2, f3⟩ := HF.out
      go_wp2_with (first | (go_at_call 76; with_reducible (first | refine (none_is _ _ (by omega) _ H0.out _).mono ?_ | refine (none_is _ _ (by omega) _ H1.out _).mono ?_ | refine (none_is _ _ (by omega) _ H2.out _).mono ?_); rintro e w' ⟨rfl, rfl⟩) | (go_at_call 72; with_reducible (first | refine (fies_is _ _ _ _ H3.out _).mono ?_); rintro e w' ⟨rfl, rfl⟩))
      go_ret
      exact ⟨rfl, below_n2 _ _ _⟩
    · skip
      cases p1
      · skip
        obtain ⟨pa, pc, ta, tc, ja, jc, sa, sc⟩ := a
        simp only at hja
        subst hja
        go_enter Tryz.func47, Tryz.ntmps47
        obtain ⟨f0, f1, f2, f3⟩ := HF.out
        go_wp2_with (first | (go_at_call 76; with_reducible (first | refine (none_is _ _ (by omega) _ H0.out _).mono ?_ | refine (none_is _ _ (by omega) _ H1.out _).mono ?_ | refine (none_is _ _ (by omega) _ H2.out _).mono ?_); rintro e w' ⟨rfl, rfl⟩) | (go_at_call 72; with_reducible (first | refine (fies_is _ _ _ _ H3.out _).mono ?_); rintro e w' ⟨rfl, rfl⟩))
        go_ret
        exact ⟨rfl, below_n2 _ _ _⟩
      · skip
        cases p2
        · skip
          obtain ⟨pa, pc, ta, tc, ja, jc, sa, sc⟩ := a
          simp only at hja
          subst hja
          go_enter Tryz.func47, Tryz.ntmps47
          obtain ⟨f0, f1, f2, f3⟩ := HF.out
          go_wp2_with (first | (go_at_call 76; with_reducible (first | refine (none_is _ _ (by omega) _ H0.out _).mono ?_ | refine (none_is _ _ (by omega) _ H1.out _).mono ?_ | refine (none_is _ _ (by omega) _ H2.out _).mono ?_); rintro e w' ⟨rfl, rfl⟩) | (go_at_call 72; with_reducible (first | refine (fies_is _ _ _ _ H3.out _).mono ?_); rintro e w' ⟨rfl, rfl⟩))
          go_ret
          exact ⟨rfl, below_n2 _ _ _⟩
        · skip
          cases p3
          · skip
            obtain ⟨pa, pc, ta, tc, ja, jc, sa, sc⟩ := a
            simp only at hja
            subst hja
            go_enter Tryz.func47, Tryz.ntmps47
            obtain ⟨f0, f1, f2, f3⟩ := HF.out
            go_wp2_with (first | (go_at_call 76; with_reducible (first | refine (none_is _ _ (by omega) _ H0.out _).mono ?_ | refine (none_is _ _ (by omega) _ H1.out _).mono ?_ | refine (none_is _ _ (by omega) _ H2.out _).mono ?_); rintro e w' ⟨rfl, rfl⟩) | (go_at_call 72; with_reducible (first | refine (fies_is _ _ _ _ H3.out _).mono ?_); rintro e w' ⟨rfl, rfl⟩))
            go_ret
            exact ⟨rfl, below_n2 _ _ _⟩
          · skip
            obtain ⟨pa, pc, ta, tc, ja, jc, sa, sc⟩ := a
            simp only at hja
            subst hja
            go_enter Tryz.func47, Tryz.ntmps47
            obtain ⟨f0, f1, f2, f3⟩ := HF.out
            go_wp2_with (first | (go_at_call 76; with_reducible (first | refine (none_is _ _ (by omega) _ H0.out _).mono ?_ | refine (none_is _ _ (by omega) _ H1.out _).mono ?_ | refine (none_is _ _ (by omega) _ H2.out _).mono ?_); rintro e w' ⟨rfl, rfl⟩) | (go_at_call 72; with_reducible (first | refine (fies_is _ _ _ _ H3.out _).mono ?_); rintro e w' ⟨rfl, rfl⟩))
            go_ret
            exact ⟨rfl, below_n2 _ _ _⟩
  have := key _ _ _ _ rfl rfl rfl rfl
  rwa [show ((inB y0 (-1) ((i : Int) - 1) && (inB y1 (-1) ((s.nt : Int) - 1) && (inB y2 (-1) ((s.nt : Int) - 1) && inB y3 1 4194304)))) = (jointB i s.nt y0 y1 y2 y3) by unfold jointB; simp only [Bool.and_assoc]] at this

set_option maxHeartbeats 4000000 in
set_option maxRecDepth 100000 in
theorem shape_row (s : Scn) (a : Pla) (b off i : Nat) (y0 y1 y2 y3 y4 y5 y6 y7 y8 y9 y10 y11 y12 : Int) (hsa : a.sa = some ⟨b, off, none⟩) (hi : i < s.ns) (hns : s.ns ≤ 4611686018427387904) (w : World) (hb : b < w.heap.size) (HF : Hid (w.cell? ⟨b, off + i * 13, none⟩ = some (.int .i64 (y0)) ∧ w.cell? ⟨b, off + i * 13 + 1, none⟩ = some (.int .i64 (y1)) ∧ w.cell? ⟨b, off + i * 13 + 2, none⟩ = some (.int .i64 (y2)) ∧ w.cell? ⟨b, off + i * 13 + 3, none⟩ = some (.int .i64 (y3)) ∧ w.cell? ⟨b, off + i * 13 + 4, none⟩ = some (.int .i64 (y4)) ∧ w.cell? ⟨b, off + i * 13 + 5, none⟩ = some (.int .i64 (y5)) ∧ w.cell? ⟨b, off + i * 13 + 6, none⟩ = some (.int .i64 (y6)) ∧ w.cell? ⟨b, off + i * 13 + 7, none⟩ = some (.int .i64 (y7)) ∧ w.cell? ⟨b, off + i * 13 + 8, none⟩ = some (.int .i64 (y8)) ∧ w.cell? ⟨b, off + i * 13 + 9, none⟩ = some (.int .i64 (y9)) ∧ w.cell? ⟨b, off + i * 13 + 10, none⟩ = some (.int .i64 (y10)) ∧ w.cell? ⟨b, off + i * 13 + 11, none⟩ = some (.int .i64 (y11)) ∧ w.cell? ⟨b, off + i * 13 + 12, none⟩ = some (.int .i64 (y12)))) : Calls Tryz.prog 48 #[SV s a, .int .i64 i] w fun e w' => e = .returned (.bool (inB y0 (-1) ((s.nj : Int) - 1) && (inB y1 0 ((s.np : Int) - 1) && (formB y2 y6 y7 y8 y9 y10 y11 y12 && nearB y2 y3 y4 y5 y6 y7 y8 y9 y10 y11)))) ∧ Below w.heap.size w w' := by
  have key : ∀ p0 p1 p2 p3 : Bool, inB y0 (-1) ((s.nj : Int) - 1) = p0 → inB y1 0 ((s.np : Int) - 1) = p1 → formB y2 y6 y7 y8 y9 y10 y11 y12 = p2 → nearB y2 y3 y4 y5 y6 y7 y8 y9 y10 y11 = p3 → Calls Tryz.prog 48 #[SV s a, .int .i64 i] w fun e w' => e = .returned (.bool (p0 && (p1 && (p2 && p3)))) ∧ Below w.heap.size w w' := by
    intro p0 p1 p2 p3 h0 h1 h2 h3
    have H0 := Lib.hid h0
    clear h0
    have H1 := Lib.hid h1
    clear h1
    have H2 := Lib.hid h2
    clear h2
    have H3 := Lib.hid h3
    clear h3
    cases p0
    · skip
      obtain ⟨pa, pc, ta, tc, ja, jc, sa, sc⟩ := a
      simp only at hsa
      subst hsa
      go_enter Tryz.func48, Tryz.ntmps48
      obtain ⟨f0, f1, f2, f3, f4, f5, f6, f7, f8, f9, f10, f11, f12⟩ := HF.out
      go_wp2_with (first | (go_at_call 76; with_reducible (first | refine (none_is _ _ (by omega) _ H0.out _).mono ?_); rintro e w' ⟨rfl, rfl⟩) | (go_at_call 77; (refine (one_is _ _ _ H1.out _).mono ?_; rintro e w' ⟨rfl, rfl⟩)) | (go_at_call 78; ((with_reducible (refine (form_is _ _ _ _ _ _ _ _ _ _ _ _ _ _ H2.out _).mono ?_)); rintro e w1 ⟨rfl, hb1⟩; obtain ⟨hc1, hf1⟩ := bcell hb1; have hz1 := hb1.size; simp at hz1; have hz2 : w.heap.size < w1.heap.size := (by omega); have hz3 : w.heap.size + 1 < w1.heap.size := (by omega))) | (go_at_call 79; with_reducible (refine (near_is _ _ _ _ _ _ _ _ _ _ _ _ _ _ H3.out _).mono ?_); rintro e w2 ⟨rfl, hb2⟩))
      go_ret
      exact ⟨rfl, by first | exact below_n2 _ _ _ | exact ((below_n2 _ _ _).trans (hb1.mono (by simp; omega))).trans (hb2.mono (by omega)) | exact (below_n2 _ _ _).trans (hb1.mono (by simp; omega))⟩
    · skip
      cases p1
      · skip
        obtain ⟨pa, pc, ta, tc, ja, jc, sa, sc⟩ := a
        simp only at hsa
        subst hsa
        go_enter Tryz.func48, Tryz.ntmps48
        obtain ⟨f0, f1, f2, f3, f4, f5, f6, f7, f8, f9, f10, f11, f12⟩ := HF.out
        go_wp2_with (first | (go_at_call 76; with_reducible (first | refine (none_is _ _ (by omega) _ H0.out _).mono ?_); rintro e w' ⟨rfl, rfl⟩) | (go_at_call 77; (refine (one_is _ _ _ H1.out _).mono ?_; rintro e w' ⟨rfl, rfl⟩)) | (go_at_call 78; ((with_reducible (refine (form_is _ _ _ _ _ _ _ _ _ _ _ _ _ _ H2.out _).mono ?_)); rintro e w1 ⟨rfl, hb1⟩; obtain ⟨hc1, hf1⟩ := bcell hb1; have hz1 := hb1.size; simp at hz1; have hz2 : w.heap.size < w1.heap.size := (by omega); have hz3 : w.heap.size + 1 < w1.heap.size := (by omega))) | (go_at_call 79; with_reducible (refine (near_is _ _ _ _ _ _ _ _ _ _ _ _ _ _ H3.out _).mono ?_); rintro e w2 ⟨rfl, hb2⟩))
        go_ret
        exact ⟨rfl, by first | exact below_n2 _ _ _ | exact ((below_n2 _ _ _).trans (hb1.mono (by simp; omega))).trans (hb2.mono (by omega)) | exact (below_n2 _ _ _).trans (hb1.mono (by simp; omega))⟩
      · skip
        cases p2
        · skip
          obtain ⟨pa, pc, ta, tc, ja, jc, sa, sc⟩ := a
          simp only at hsa
          subst hsa
          go_enter Tryz.func48, Tryz.ntmps48
          obtain ⟨f0, f1, f2, f3, f4, f5, f6, f7, f8, f9, f10, f11, f12⟩ := HF.out
          go_wp2_with (first | (go_at_call 76; with_reducible (first | refine (none_is _ _ (by omega) _ H0.out _).mono ?_); rintro e w' ⟨rfl, rfl⟩) | (go_at_call 77; (refine (one_is _ _ _ H1.out _).mono ?_; rintro e w' ⟨rfl, rfl⟩)) | (go_at_call 78; ((with_reducible (refine (form_is _ _ _ _ _ _ _ _ _ _ _ _ _ _ H2.out _).mono ?_)); rintro e w1 ⟨rfl, hb1⟩; obtain ⟨hc1, hf1⟩ := bcell hb1; have hz1 := hb1.size; simp at hz1; have hz2 : w.heap.size < w1.heap.size := (by omega); have hz3 : w.heap.size + 1 < w1.heap.size := (by omega))) | (go_at_call 79; with_reducible (refine (near_is _ _ _ _ _ _ _ _ _ _ _ _ _ _ H3.out _).mono ?_); rintro e w2 ⟨rfl, hb2⟩))
          go_ret
          exact ⟨rfl, by first | exact below_n2 _ _ _ | exact ((below_n2 _ _ _).trans (hb1.mono (by simp; omega))).trans (hb2.mono (by omega)) | exact (below_n2 _ _ _).trans (hb1.mono (by simp; omega))⟩
        · skip
          cases p3
          · skip
            obtain ⟨pa, pc, ta, tc, ja, jc, sa, sc⟩ := a
            simp only at hsa
            subst hsa
            go_enter Tryz.func48, Tryz.ntmps48
            obtain ⟨f0, f1, f2, f3, f4, f5, f6, f7, f8, f9, f10, f11, f12⟩ := HF.out
            go_wp2_with (first | (go_at_call 76; with_reducible (first | refine (none_is _ _ (by omega) _ H0.out _).mono ?_); rintro e w' ⟨rfl, rfl⟩) | (go_at_call 77; (refine (one_is _ _ _ H1.out _).mono ?_; rintro e w' ⟨rfl, rfl⟩)) | (go_at_call 78; ((with_reducible (refine (form_is _ _ _ _ _ _ _ _ _ _ _ _ _ _ H2.out _).mono ?_)); rintro e w1 ⟨rfl, hb1⟩; obtain ⟨hc1, hf1⟩ := bcell hb1; have hz1 := hb1.size; simp at hz1; have hz2 : w.heap.size < w1.heap.size := (by omega); have hz3 : w.heap.size + 1 < w1.heap.size := (by omega))) | (go_at_call 79; with_reducible (refine (near_is _ _ _ _ _ _ _ _ _ _ _ _ _ _ H3.out _).mono ?_); rintro e w2 ⟨rfl, hb2⟩))
            go_ret
            exact ⟨rfl, by first | exact below_n2 _ _ _ | exact ((below_n2 _ _ _).trans (hb1.mono (by simp; omega))).trans (hb2.mono (by omega)) | exact (below_n2 _ _ _).trans (hb1.mono (by simp; omega))⟩
          · skip
            obtain ⟨pa, pc, ta, tc, ja, jc, sa, sc⟩ := a
            simp only at hsa
            subst hsa
            go_enter Tryz.func48, Tryz.ntmps48
            obtain ⟨f0, f1, f2, f3, f4, f5, f6, f7, f8, f9, f10, f11, f12⟩ := HF.out
            go_wp2_with (first | (go_at_call 76; with_reducible (first | refine (none_is _ _ (by omega) _ H0.out _).mono ?_); rintro e w' ⟨rfl, rfl⟩) | (go_at_call 77; (refine (one_is _ _ _ H1.out _).mono ?_; rintro e w' ⟨rfl, rfl⟩)) | (go_at_call 78; ((with_reducible (refine (form_is _ _ _ _ _ _ _ _ _ _ _ _ _ _ H2.out _).mono ?_)); rintro e w1 ⟨rfl, hb1⟩; obtain ⟨hc1, hf1⟩ := bcell hb1; have hz1 := hb1.size; simp at hz1; have hz2 : w.heap.size < w1.heap.size := (by omega); have hz3 : w.heap.size + 1 < w1.heap.size := (by omega))) | (go_at_call 79; with_reducible (refine (near_is _ _ _ _ _ _ _ _ _ _ _ _ _ _ H3.out _).mono ?_); rintro e w2 ⟨rfl, hb2⟩))
            go_ret
            exact ⟨rfl, by first | exact below_n2 _ _ _ | exact ((below_n2 _ _ _).trans (hb1.mono (by simp; omega))).trans (hb2.mono (by omega)) | exact (below_n2 _ _ _).trans (hb1.mono (by simp; omega))⟩
  have := key _ _ _ _ rfl rfl rfl rfl
  rwa [show ((inB y0 (-1) ((s.nj : Int) - 1) && (inB y1 0 ((s.np : Int) - 1) && (formB y2 y6 y7 y8 y9 y10 y11 y12 && nearB y2 y3 y4 y5 y6 y7 y8 y9 y10 y11)))) = (inB y0 (-1) ((s.nj : Int) - 1) && (inB y1 0 ((s.np : Int) - 1) && (formB y2 y6 y7 y8 y9 y10 y11 y12 && nearB y2 y3 y4 y5 y6 y7 y8 y9 y10 y11))) by rfl] at this

set_option maxHeartbeats 4000000 in
set_option maxRecDepth 100000 in
theorem lens_any (s : Scn) (a : Pla) (w : World) : Calls Tryz.prog 49 #[SV s a] w fun e w' => e = .returned (.bool (lnB s)) ∧ Below w.heap.size w w' := by
  have key : ∀ p0 p1 p2 : Bool, inB s.ey 0 ((s.nt : Int) - 1) = p0 → inB s.lk 0 ((s.nt : Int) - 1) = p1 → inB s.wd 1 524288 = p2 → Calls Tryz.prog 49 #[SV s a] w fun e w' => e = .returned (.bool (p0 && (p1 && p2))) ∧ Below w.heap.size w w' := by
    intro p0 p1 p2 h0 h1 h2
    have H0 := Lib.hid h0
    clear h0
    have H1 := Lib.hid h1
    clear h1
    have H2 := Lib.hid h2
    clear h2
    cases p0
    · skip
      go_enter Tryz.func49, Tryz.ntmps49
      go_wp2_with (first | (go_at_call 77; with_reducible (first | refine (one_is _ _ _ H0.out _).mono ?_ | refine (one_is _ _ _ H1.out _).mono ?_); rintro e w' ⟨rfl, rfl⟩) | (go_at_call 72; with_reducible (first | refine (fies_is _ _ _ _ H2.out _).mono ?_); rintro e w' ⟨rfl, rfl⟩))
      go_ret
      exact ⟨rfl, below_n1 _ _⟩
    · skip
      cases p1
      · skip
        go_enter Tryz.func49, Tryz.ntmps49
        go_wp2_with (first | (go_at_call 77; with_reducible (first | refine (one_is _ _ _ H0.out _).mono ?_ | refine (one_is _ _ _ H1.out _).mono ?_); rintro e w' ⟨rfl, rfl⟩) | (go_at_call 72; with_reducible (first | refine (fies_is _ _ _ _ H2.out _).mono ?_); rintro e w' ⟨rfl, rfl⟩))
        go_ret
        exact ⟨rfl, below_n1 _ _⟩
      · skip
        cases p2
        · skip
          go_enter Tryz.func49, Tryz.ntmps49
          go_wp2_with (first | (go_at_call 77; with_reducible (first | refine (one_is _ _ _ H0.out _).mono ?_ | refine (one_is _ _ _ H1.out _).mono ?_); rintro e w' ⟨rfl, rfl⟩) | (go_at_call 72; with_reducible (first | refine (fies_is _ _ _ _ H2.out _).mono ?_); rintro e w' ⟨rfl, rfl⟩))
          go_ret
          exact ⟨rfl, below_n1 _ _⟩
        · skip
          go_enter Tryz.func49, Tryz.ntmps49
          go_wp2_with (first | (go_at_call 77; with_reducible (first | refine (one_is _ _ _ H0.out _).mono ?_ | refine (one_is _ _ _ H1.out _).mono ?_); rintro e w' ⟨rfl, rfl⟩) | (go_at_call 72; with_reducible (first | refine (fies_is _ _ _ _ H2.out _).mono ?_); rintro e w' ⟨rfl, rfl⟩))
          go_ret
          exact ⟨rfl, below_n1 _ _⟩
  have := key _ _ _ rfl rfl rfl
  rwa [show ((inB s.ey 0 ((s.nt : Int) - 1) && (inB s.lk 0 ((s.nt : Int) - 1) && inB s.wd 1 524288))) = (lnB s) by unfold lnB; simp only [Bool.and_assoc]] at this

end Go.Proofs.YtplcbdmiccpnnaaGreat.Sc
