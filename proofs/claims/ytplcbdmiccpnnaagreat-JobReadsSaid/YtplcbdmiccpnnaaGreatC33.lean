/- Scenes: the contracts of the program's questions about headers, forms of shapes. -/
import Derived.Test.YtplcbdmiccpnnaaGreatC18
import Derived.Test.YtplcbdmiccpnnaaGreatC19
import Derived.Deep.WholeRow
namespace Go.Proofs.YtplcbdmiccpnnaaGreat.Sc
open Go.RowKit Go.Proofs.YtplcbdmiccpnnaaGreat Go.Proofs.YtplcbdmiccpnnaaGreat.Wa Go.Proofs.YtplcbdmiccpnnaaGreat.Ve Go.Proofs.YtplcbdmiccpnnaaGreat.Tk
set_option linter.unusedVariables false

abbrev X13 (j p k ax ay az bx by_ bz cx cy cz q : Int) : Value := .agg #[.int .i64 j, .int .i64 p, .int .i64 k, .int .i64 ax, .int .i64 ay, .int .i64 az, .int .i64 bx, .int .i64 by_, .int .i64 bz, .int .i64 cx, .int .i64 cy, .int .i64 cz, .int .i64 q]

theorem paint_is (k r g b q : Int) (v : Bool) (h : paintB k r g b q = v) (w : World) : Calls Tryz.prog 44 #[.agg #[.int .i64 k, .int .i64 r, .int .i64 g, .int .i64 b, .int .i64 q]] w fun e w' => e = .returned (.bool v) ∧ Below w.heap.size w w' := by
  subst h; exact paint_any k r g b q w

set_option maxHeartbeats 4000000 in
set_option maxRecDepth 100000 in
theorem head_any (a0 a1 a2 a3 a4 a5 : Int) (a6 : Nat) (r g b : Int) (w : World) : Calls Tryz.prog 41 #[HV a0 a1 a2 a3 a4 a5 a6 r g b] w fun e w' => e = .returned (.bool (inB a0 1 64 && inB a1 1 64 && inB a2 1 16 && inB a3 1 6 && inB a4 1 32 && inB a5 0 65536 && lightB r g b)) ∧ Below w.heap.size w w' := by
  have key : ∀ p0 p1 p2 p3 p4 p5 p6 : Bool, inB a0 1 64 = p0 → inB a1 1 64 = p1 → inB a2 1 16 = p2 → inB a3 1 6 = p3 → inB a4 1 32 = p4 → inB a5 0 65536 = p5 → lightB r g b = p6 → Calls Tryz.prog 41 #[HV a0 a1 a2 a3 a4 a5 a6 r g b] w fun e w' => e = .returned (.bool (p0 && (p1 && (p2 && (p3 && (p4 && (p5 && p6))))))) ∧ Below w.heap.size w w' := by
    intro p0 p1 p2 p3 p4 p5 p6 h0 h1 h2 h3 h4 h5 h6
    have H0 := Lib.hid h0
    clear h0
    have H1 := Lib.hid h1
    clear h1
    have H2 := Lib.hid h2
    clear h2
    have H3 := Lib.hid h3
    clear h3
    have H4 := Lib.hid h4
    clear h4
    have H5 := Lib.hid h5
    clear h5
    have H6 := Lib.hid h6
    clear h6
    cases p0
    · skip
      go_enter Tryz.func41, Tryz.ntmps41
      go_wp2_with (first | (go_at_call 71; with_reducible (first | refine (lies_is _ _ _ _ H0.out _).mono ?_ | refine (lies_is _ _ _ _ H1.out _).mono ?_ | refine (lies_is _ _ _ _ H2.out _).mono ?_ | refine (lies_is _ _ _ _ H3.out _).mono ?_ | refine (lies_is _ _ _ _ H4.out _).mono ?_); rintro e w' ⟨rfl, rfl⟩) | (go_at_call 72; with_reducible (refine (fies_is _ _ _ _ H5.out _).mono ?_); rintro e w' ⟨rfl, rfl⟩) | (go_at_call 73; with_reducible (refine (light_is _ _ _ _ H6.out _).mono ?_); rintro e w1 ⟨rfl, hb1⟩; obtain ⟨hc1, hf1⟩ := bcell hb1))
      go_ret
      exact ⟨rfl, by first | exact below_n1 _ _ | exact (below_n1 _ _).trans (hb1.mono (by simp))⟩
    · skip
      cases p1
      · skip
        go_enter Tryz.func41, Tryz.ntmps41
        go_wp2_with (first | (go_at_call 71; with_reducible (first | refine (lies_is _ _ _ _ H0.out _).mono ?_ | refine (lies_is _ _ _ _ H1.out _).mono ?_ | refine (lies_is _ _ _ _ H2.out _).mono ?_ | refine (lies_is _ _ _ _ H3.out _).mono ?_ | refine (lies_is _ _ _ _ H4.out _).mono ?_); rintro e w' ⟨rfl, rfl⟩) | (go_at_call 72; with_reducible (refine (fies_is _ _ _ _ H5.out _).mono ?_); rintro e w' ⟨rfl, rfl⟩) | (go_at_call 73; with_reducible (refine (light_is _ _ _ _ H6.out _).mono ?_); rintro e w1 ⟨rfl, hb1⟩; obtain ⟨hc1, hf1⟩ := bcell hb1))
        go_ret
        exact ⟨rfl, by first | exact below_n1 _ _ | exact (below_n1 _ _).trans (hb1.mono (by simp))⟩
      · skip
        cases p2
        · skip
          go_enter Tryz.func41, Tryz.ntmps41
          go_wp2_with (first | (go_at_call 71; with_reducible (first | refine (lies_is _ _ _ _ H0.out _).mono ?_ | refine (lies_is _ _ _ _ H1.out _).mono ?_ | refine (lies_is _ _ _ _ H2.out _).mono ?_ | refine (lies_is _ _ _ _ H3.out _).mono ?_ | refine (lies_is _ _ _ _ H4.out _).mono ?_); rintro e w' ⟨rfl, rfl⟩) | (go_at_call 72; with_reducible (refine (fies_is _ _ _ _ H5.out _).mono ?_); rintro e w' ⟨rfl, rfl⟩) | (go_at_call 73; with_reducible (refine (light_is _ _ _ _ H6.out _).mono ?_); rintro e w1 ⟨rfl, hb1⟩; obtain ⟨hc1, hf1⟩ := bcell hb1))
          go_ret
          exact ⟨rfl, by first | exact below_n1 _ _ | exact (below_n1 _ _).trans (hb1.mono (by simp))⟩
        · skip
          cases p3
          · skip
            go_enter Tryz.func41, Tryz.ntmps41
            go_wp2_with (first | (go_at_call 71; with_reducible (first | refine (lies_is _ _ _ _ H0.out _).mono ?_ | refine (lies_is _ _ _ _ H1.out _).mono ?_ | refine (lies_is _ _ _ _ H2.out _).mono ?_ | refine (lies_is _ _ _ _ H3.out _).mono ?_ | refine (lies_is _ _ _ _ H4.out _).mono ?_); rintro e w' ⟨rfl, rfl⟩) | (go_at_call 72; with_reducible (refine (fies_is _ _ _ _ H5.out _).mono ?_); rintro e w' ⟨rfl, rfl⟩) | (go_at_call 73; with_reducible (refine (light_is _ _ _ _ H6.out _).mono ?_); rintro e w1 ⟨rfl, hb1⟩; obtain ⟨hc1, hf1⟩ := bcell hb1))
            go_ret
            exact ⟨rfl, by first | exact below_n1 _ _ | exact (below_n1 _ _).trans (hb1.mono (by simp))⟩
          · skip
            cases p4
            · skip
              go_enter Tryz.func41, Tryz.ntmps41
              go_wp2_with (first | (go_at_call 71; with_reducible (first | refine (lies_is _ _ _ _ H0.out _).mono ?_ | refine (lies_is _ _ _ _ H1.out _).mono ?_ | refine (lies_is _ _ _ _ H2.out _).mono ?_ | refine (lies_is _ _ _ _ H3.out _).mono ?_ | refine (lies_is _ _ _ _ H4.out _).mono ?_); rintro e w' ⟨rfl, rfl⟩) | (go_at_call 72; with_reducible (refine (fies_is _ _ _ _ H5.out _).mono ?_); rintro e w' ⟨rfl, rfl⟩) | (go_at_call 73; with_reducible (refine (light_is _ _ _ _ H6.out _).mono ?_); rintro e w1 ⟨rfl, hb1⟩; obtain ⟨hc1, hf1⟩ := bcell hb1))
              go_ret
              exact ⟨rfl, by first | exact below_n1 _ _ | exact (below_n1 _ _).trans (hb1.mono (by simp))⟩
            · skip
              cases p5
              · skip
                go_enter Tryz.func41, Tryz.ntmps41
                go_wp2_with (first | (go_at_call 71; with_reducible (first | refine (lies_is _ _ _ _ H0.out _).mono ?_ | refine (lies_is _ _ _ _ H1.out _).mono ?_ | refine (lies_is _ _ _ _ H2.out _).mono ?_ | refine (lies_is _ _ _ _ H3.out _).mono ?_ | refine (lies_is _ _ _ _ H4.out _).mono ?_); rintro e w' ⟨rfl, rfl⟩) | (go_at_call 72; with_reducible (refine (fies_is _ _ _ _ H5.out _).mono ?_); rintro e w' ⟨rfl, rfl⟩) | (go_at_call 73; with_reducible (refine (light_is _ _ _ _ H6.out _).mono ?_); rintro e w1 ⟨rfl, hb1⟩; obtain ⟨hc1, hf1⟩ := bcell hb1))
                go_ret
                exact ⟨rfl, by first | exact below_n1 _ _ | exact (below_n1 _ _).trans (hb1.mono (by simp))⟩
              · skip
                cases p6
                · skip
                  go_enter Tryz.func41, Tryz.ntmps41
                  go_wp2_with (first | (go_at_call 71; with_reducible (first | refine (lies_is _ _ _ _ H0.out _).mono ?_ | refine (lies_is _ _ _ _ H1.out _).mono ?_ | refine (lies_is _ _ _ _ H2.out _).mono ?_ | refine (lies_is _ _ _ _ H3.out _).mono ?_ | refine (lies_is _ _ _ _ H4.out _).mono ?_); rintro e w' ⟨rfl, rfl⟩) | (go_at_call 72; with_reducible (refine (fies_is _ _ _ _ H5.out _).mono ?_); rintro e w' ⟨rfl, rfl⟩) | (go_at_call 73; with_reducible (refine (light_is _ _ _ _ H6.out _).mono ?_); rintro e w1 ⟨rfl, hb1⟩; obtain ⟨hc1, hf1⟩ := bcell hb1))
                  go_ret
                  exact ⟨rfl, by first | exact below_n1 _ _ | exact (below_n1 _ _).trans (hb1.mono (by simp))⟩
                · skip
                  go_enter Tryz.func41, Tryz.ntmps41
                  go_wp2_with (first | (go_at_call 71; with_reducible (first | refine (lies_is _ _ _ _ H0.out _).mono ?_ | refine (lies_is _ _ _ _ H1.out _).mono ?_ | refine (lies_is _ _ _ _ H2.out _).mono ?_ | refine (lies_is _ _ _ _ H3.out _).mono ?_ | refine (lies_is _ _ _ _ H4.out _).mono ?_); rintro e w' ⟨rfl, rfl⟩) | (go_at_call 72; with_reducible (refine (fies_is _ _ _ _ H5.out _).mono ?_); rintro e w' ⟨rfl, rfl⟩) | (go_at_call 73; with_reducible (refine (light_is _ _ _ _ H6.out _).mono ?_); rintro e w1 ⟨rfl, hb1⟩; obtain ⟨hc1, hf1⟩ := bcell hb1))
                  go_ret
                  exact ⟨rfl, by first | exact below_n1 _ _ | exact (below_n1 _ _).trans (hb1.mono (by simp))⟩
  have := key _ _ _ _ _ _ _ rfl rfl rfl rfl rfl rfl rfl
  rwa [show ((inB a0 1 64 && (inB a1 1 64 && (inB a2 1 16 && (inB a3 1 6 && (inB a4 1 32 && (inB a5 0 65536 && lightB r g b))))))) = (inB a0 1 64 && inB a1 1 64 && inB a2 1 16 && inB a3 1 6 && inB a4 1 32 && inB a5 0 65536 && lightB r g b) by simp only [Bool.and_assoc]] at this

theorem head_is (s : Scn) (v : Bool) (h : hdB s = v) (w : World) : Calls Tryz.prog 41 #[HS s] w fun e w' => e = .returned (.bool v) ∧ Below w.heap.size w w' := by
  subst h; exact head_any _ _ _ _ _ _ _ _ _ _ w

/-- what a ball's form asks -/
def ballB (bx by_ bz cx cy cz q : Int) : Bool := inB q 1 4194304 && (decide (bx = 0 ∧ by_ = 0 ∧ bz = 0) && decide (cx = 0 ∧ cy = 0 ∧ cz = 0))

set_option maxHeartbeats 4000000 in
theorem form_ball (j p ax ay az bx by_ bz cx cy cz q : Int) (w : World) : Calls Tryz.prog 78 #[X13 j p 0 ax ay az bx by_ bz cx cy cz q] w fun e w' => e = .returned (.bool (ballB bx by_ bz cx cy cz q)) ∧ Below w.heap.size w w' := by
  have key : ∀ p0 p1 p2 : Bool, inB q 1 4194304 = p0 → decide (bx = 0 ∧ by_ = 0 ∧ bz = 0) = p1 → decide (cx = 0 ∧ cy = 0 ∧ cz = 0) = p2 →
      Calls Tryz.prog 78 #[X13 j p 0 ax ay az bx by_ bz cx cy cz q] w fun e w' => e = .returned (.bool (p0 && (p1 && p2))) ∧ Below w.heap.size w w' := by
    intro p0 p1 p2 h0 h1 h2
    have H0 := Lib.hid h0
    clear h0
    have e1 : ∀ W, (Op.equalIn 10000 101 (V3 bx by_ bz) (V3 0 0 0)).run Tryz.prog W = .ok p1 W := fun W => by rw [eq_avec, h1]
    have e2 : ∀ W, (Op.equalIn 10000 101 (V3 cx cy cz) (V3 0 0 0)).run Tryz.prog W = .ok p2 W := fun W => by rw [eq_avec, h2]
    clear h1 h2
    cases p0
    · go_enter Tryz.func78, Tryz.ntmps78
      go_wp2_with (go_at_call 72; with_reducible (refine (fies_is _ _ _ _ H0.out _).mono ?_); rintro e w' ⟨rfl, rfl⟩)
      go_ret
      exact ⟨rfl, below_n1 _ _⟩
    · cases p1
      · go_enter Tryz.func78, Tryz.ntmps78
        go_wp2_with (go_at_call 72; with_reducible (refine (fies_is _ _ _ _ H0.out _).mono ?_); rintro e w' ⟨rfl, rfl⟩)
        go_ret
        exact ⟨rfl, below_n1 _ _⟩
      · go_enter Tryz.func78, Tryz.ntmps78
        go_wp2_with (go_at_call 72; with_reducible (refine (fies_is _ _ _ _ H0.out _).mono ?_); rintro e w' ⟨rfl, rfl⟩)
        go_ret
        exact ⟨rfl, below_n1 _ _⟩
  exact key _ _ _ rfl rfl rfl

theorem form_face (j p ax ay az bx by_ bz cx cy cz q : Int) (w : World) : Calls Tryz.prog 78 #[X13 j p 1 ax ay az bx by_ bz cx cy cz q] w fun e w' => e = .returned (.bool (decide (q = 0))) ∧ Below w.heap.size w w' := by
  go_enter Tryz.func78, Tryz.ntmps78
  have e3 : (q == 0) = decide (q = 0) := by by_cases h : q = 0 <;> simp [h]
  go_wp2
  go_ret
  exact ⟨by rw [← e3]; rfl, below_n1 _ _⟩

theorem form_other (j p k ax ay az bx by_ bz cx cy cz q : Int) (h0 : ¬ k = 0) (h1 : ¬ k = 1) (w : World) : Calls Tryz.prog 78 #[X13 j p k ax ay az bx by_ bz cx cy cz q] w fun e w' => e = .returned (.bool false) ∧ Below w.heap.size w w' := by
  go_enter Tryz.func78, Tryz.ntmps78
  go_wp2
  go_ret
  exact ⟨rfl, below_n1 _ _⟩

def formB (k bx by_ bz cx cy cz q : Int) : Bool := if k = 0 then ballB bx by_ bz cx cy cz q else decide (k = 1) && decide (q = 0)

theorem form_is (j p k ax ay az bx by_ bz cx cy cz q : Int) (v : Bool) (h : formB k bx by_ bz cx cy cz q = v) (w : World) : Calls Tryz.prog 78 #[X13 j p k ax ay az bx by_ bz cx cy cz q] w fun e w' => e = .returned (.bool v) ∧ Below w.heap.size w w' := by
  subst h
  by_cases h0 : k = 0
  · subst h0; exact form_ball j p ax ay az bx by_ bz cx cy cz q w
  · by_cases h1 : k = 1
    · subst h1
      have := form_face j p ax ay az bx by_ bz cx cy cz q w
      simpa [formB] using this
    · have := form_other j p k ax ay az bx by_ bz cx cy cz q h0 h1 w
      simpa [formB, h0, h1] using this

theorem heap_last2 (w : World) (o o2 : Obj) : ((w.alloc o).alloc o2).heap[w.heap.size + 1]? = some o2 := by
  have := heap_alloc_last (w.alloc o) o2
  rwa [World.size_alloc] at this

/-- the corners of a shape, in a block of their own -/
def CorAt (w : World) (g n : Nat) (C : Array Value) : Prop := ∃ t, w.heap[g]? = some (.cells C t (0, 0))

theorem corners_ball (j p ax ay az bx by_ bz cx cy cz q : Int) (w : World) : Calls Tryz.prog 90 #[X13 j p 0 ax ay az bx by_ bz cx cy cz q] w fun e w' => (∃ g, e = .returned (.slice (some ⟨g, 0, none⟩) 1 1) ∧ CorAt w' g 1 #[.int .i64 ax, .int .i64 ay, .int .i64 az] ∧ w.heap.size ≤ g) ∧ Below w.heap.size w w' := by
  go_enter Tryz.func90, Tryz.ntmps90
  go_wp2
  go_ret
  exact ⟨⟨w.heap.size + 1, rfl, ⟨_, heap_last2 _ _ _⟩, by omega⟩, below_n2 _ _ _⟩

theorem corners_face (j p k ax ay az bx by_ bz cx cy cz q : Int) (h : ¬ k = 0) (w : World) : Calls Tryz.prog 90 #[X13 j p k ax ay az bx by_ bz cx cy cz q] w fun e w' => (∃ g, e = .returned (.slice (some ⟨g, 0, none⟩) 3 3) ∧ CorAt w' g 3 #[.int .i64 ax, .int .i64 ay, .int .i64 az, .int .i64 bx, .int .i64 by_, .int .i64 bz, .int .i64 cx, .int .i64 cy, .int .i64 cz] ∧ w.heap.size ≤ g) ∧ Below w.heap.size w w' := by
  go_enter Tryz.func90, Tryz.ntmps90
  go_wp2
  go_ret
  exact ⟨⟨w.heap.size + 1, rfl, ⟨_, heap_last2 _ _ _⟩, by omega⟩, below_n2 _ _ _⟩

end Go.Proofs.YtplcbdmiccpnnaaGreat.Sc
