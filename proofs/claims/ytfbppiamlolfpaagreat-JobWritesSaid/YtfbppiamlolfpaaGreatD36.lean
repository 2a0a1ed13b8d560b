/- Scenes: the contracts of a law's own questions: small ones, and the example. -/
import Derived.Test.YtfbppiamlolfpaaGreatD34
import Derived.Test.YtfbppiamlolfpaaGreatD29
namespace Go.Proofs.YtfbppiamlolfpaaGreat.Sc
open Go.RowKit Go.Shelf Go.Proofs.YtfbppiamlolfpaaGreat Go.Proofs.YtfbppiamlolfpaaGreat.Wa Go.Proofs.YtfbppiamlolfpaaGreat.Ve Go.Proofs.YtfbppiamlolfpaaGreat.Tk Go.Proofs.YtfbppiamlolfpaaGreat.Ls
set_option linter.unusedVariables false

/-- are the first so many tracks' keys few? -/
def fewB (s : Scn) : Nat → Bool
  | 0 => true
  | k + 1 => fewB s k && decide (s.kn k ≤ 40)

def smallB (s : Scn) : Bool := fewB s s.nt && (decide (s.np ≤ 60) && (decide (s.nt ≤ 60) && (decide (s.nj ≤ 60) && decide (s.ns ≤ 200))))

theorem fewB_bad {s : Scn} {k : Nat} (h : ¬ s.kn k ≤ 40) : ∀ n, k < n → fewB s n = false
  | n + 1, hk => by
    unfold fewB
    by_cases e : k = n
    · subst e; simp [h]
    · rw [fewB_bad h n (by omega)]; rfl

theorem fewB_all {s : Scn} : ∀ {n : Nat}, fewB s n = true → ∀ k, k < n → s.kn k ≤ 40
  | n + 1, h, k, hk => by
    unfold fewB at h
    simp at h
    by_cases e : k = n
    · subst e; exact h.2
    · exact fewB_all h.1 k (by omega)

theorem few_snoc {s : Scn} {k : Nat} (h : fewB s k = true) (hk : s.kn k ≤ 40) : fewB s (k + 1) = true := by simp [fewB, h, hk]

set_option maxHeartbeats 4000000 in
set_option maxRecDepth 100000 in
theorem small_any (s : Scn) (a : Pla) (w : World) (hs : ScAt w s a) :
    Calls Tryz.prog 6 #[SV s a] w fun e w' => e = .returned (.bool (smallB s)) ∧ Below w.heap.size w w' := by
  obtain ⟨pa, pc, ta, tc, ja, jc, sa, sc⟩ := a
  have HB := Lib.hid (SBox.new w s ⟨pa, pc, ta, tc, ja, jc, sa, sc⟩ 32)
  have HSA := Lib.hid hs
  have hnp := hs.p.1
  have hnt := hs.t.1
  have hnj := hs.j.1
  have hns := hs.sh.1
  clear hs
  have HW0 := Lib.hid (below_n1 w (.cells (SC s ⟨pa, pc, ta, tc, ja, jc, sa, sc⟩) 32))
  go_enter Tryz.func6, Tryz.ntmps6
  go_wp2_with fail
  go_loopw [8] (fun ix wr => ∃ k : Nat, k ≤ s.nt ∧ ix = .int .i64 k ∧ Hid (fewB s k = true) ∧ Hid (SBox wr w.heap.size s ⟨pa, pc, ta, tc, ja, jc, sa, sc⟩) ∧ Below w.heap.size w wr) (fun ix _ => s.nt - (intOf ix).toNat)
  case atStart => exact ⟨0, Nat.zero_le _, rfl, Lib.hid rfl, HB, HW0.out⟩
  case round =>
    obtain ⟨k, hk, rfl, HF, HQ, hbk⟩ := hrel
    by_cases hlt : k < s.nt
    · have hlt' : (k : Int) < s.nt := by omega
      obtain ⟨-, h9 | ⟨b, off, hba, hb, hcs⟩⟩ := (HSA.out.on hbk).t
      · omega
      obtain ⟨ka, kc, f0, f1, hka⟩ := hcs k hlt
      rw [show off + (k * 2 + 1) = off + k * 2 + 1 by omega] at f1
      have hba' : ta = some ⟨b, off, none⟩ := hba
      subst hba'
      clear hcs hka hba
      obtain ⟨n, hn⟩ : ∃ n, n = s.kn k := ⟨_, rfl⟩
      rw [← hn] at f1
      by_cases h40 : n ≤ 40
      · have h40' : ¬ (40 : Int) < n := by omega
        have HF2 := Lib.hid (few_snoc HF.out (by omega))
        clear hn
        go_wp2_with fail
        go_roundw
        case rel => exact ⟨k + 1, by omega, by go_num, HF2, Lib.hid (HQ.out.on (below_n1 _ _)), hbk.trans ((below_n1 _ _).mono hbk.size)⟩
        case measure => simp [intOf]; omega
      · have h40' : (40 : Int) < n := by omega
        have hz : smallB s = false := by unfold smallB; rw [fewB_bad (k := k) (by omega) s.nt hlt]; rfl
        have HZ := Lib.hid hz
        clear hn hz
        go_wp2
        go_ret
        exact ⟨by rw [HZ.out]; rfl, hbk.trans ((below_n1 _ _).mono hbk.size)⟩
    · obtain rfl : k = s.nt := by omega
      have hsb := HQ.out
      have d13 := hsb.c13
      have d14 := hsb.c14
      have d15 := hsb.c15
      have d16 := hsb.c16
      simp only at d13 d14 d15 d16
      clear hsb
      have hv : smallB s = (decide (s.np ≤ 60) && (decide (s.nt ≤ 60) && (decide (s.nj ≤ 60) && decide (s.ns ≤ 200)))) := by unfold smallB; rw [HF.out]; rfl
      by_cases g1 : s.np ≤ 60
      · have g1' : (s.np : Int) ≤ 60 := by omega
        by_cases g2 : s.nt ≤ 60
        · have g2' : (s.nt : Int) ≤ 60 := by omega
          by_cases g3 : s.nj ≤ 60
          · have g3' : (s.nj : Int) ≤ 60 := by omega
            by_cases g4 : s.ns ≤ 200
            · have g4' : (s.ns : Int) ≤ 200 := by omega
              have HV := Lib.hid (show smallB s = true by rw [hv]; simp [g1, g2, g3, g4])
              clear hv
              go_wp2
              go_ret
              exact ⟨by rw [HV.out]; rfl, hbk⟩
            · have g4' : ¬ (s.ns : Int) ≤ 200 := by omega
              have HV := Lib.hid (show smallB s = false by rw [hv]; simp [g1, g2, g3, g4])
              clear hv
              go_wp2
              go_ret
              exact ⟨by rw [HV.out]; rfl, hbk⟩
          · have g3' : ¬ (s.nj : Int) ≤ 60 := by omega
            have HV := Lib.hid (show smallB s = false by rw [hv]; simp [g1, g2, g3])
            clear hv
            go_wp2
            go_ret
            exact ⟨by rw [HV.out]; rfl, hbk⟩
        · have g2' : ¬ (s.nt : Int) ≤ 60 := by omega
          have HV := Lib.hid (show smallB s = false by rw [hv]; simp [g1, g2])
          clear hv
          go_wp2
          go_ret
          exact ⟨by rw [HV.out]; rfl, hbk⟩
      · have g1' : ¬ (s.np : Int) ≤ 60 := by omega
        have HV := Lib.hid (show smallB s = false by rw [hv]; simp [g1])
        clear hv
        go_wp2
        go_ret
        exact ⟨by rw [HV.out]; rfl, hbk⟩

theorem heap_last3 (w : World) (o o2 o3 : Obj) : (((w.alloc o).alloc o2).alloc o3).heap[w.heap.size + 1 + 1]? = some o3 := by
  have := heap_last2 (w.alloc o) o2 o3
  rwa [World.size_alloc] at this

/-- the example's scene -/
def exS : Scn := { w := 2, h := 3, sm := 1, dp := 1, fr := 1, sh := 0, sd := 0, r := 0, g := 0, b := 0, ey := 0, lk := 0, wd := 1, np := 0, P := fun _ => 0, nt := 1, way := fun _ => 0, kn := fun _ => 1, K := fun _ _ => 0, nj := 0, J := fun _ => 0, ns := 0, S := fun _ => 0 }

theorem exS_ok : chk exS = (0, 0) := by decide +kernel

theorem exS_at {w : World} {g g2 : Nat} {t t2 : TypeId} (h1 : w.heap[g]? = some (.cells #[.int .i64 0, .int .i64 0, .int .i64 0, .int .i64 0] t (0, 0))) (h2 : w.heap[g2]? = some (.cells #[.int .i64 0, .slice (some ⟨g, 0, none⟩) 1 1] t2 (0, 0))) : ScAt w exS ⟨none, 0, some ⟨g2, 0, none⟩, 1, none, 0, none, 0⟩ := by
  have hlt : ∀ {k : Nat} {x : Obj}, w.heap[k]? = some x → k < w.heap.size := fun {k x} h => by
    rcases Nat.lt_or_ge k w.heap.size with h' | h'
    · exact h'
    · rw [Array.getElem?_eq_none h'] at h; cases h
  refine ⟨⟨by simp [exS], .inl rfl⟩, ⟨by simp [exS], .inr ⟨g2, 0, rfl, hlt h2, fun i hi => ?_⟩⟩, ⟨by simp [exS], .inl rfl⟩, ⟨by simp [exS], .inl rfl⟩, by simp [exS]⟩
  obtain rfl : i = 0 := by simp [exS] at hi; omega
  refine ⟨some ⟨g, 0, none⟩, 1, ?_, ?_, by simp [exS], .inr ⟨g, 0, rfl, hlt h1, fun j hj => ?_⟩⟩
  · exact cell_of_row _ _ 0 _ _ _ h2
  · exact cell_of_row _ _ 1 _ _ _ h2
  · have hj4 : j < 4 := by simp [exS] at hj; omega
    rw [Nat.zero_add, cell_of_row _ _ j _ _ _ h1]
    match j, hj4 with
    | 0, _ => rfl
    | 1, _ => rfl
    | 2, _ => rfl
    | 3, _ => rfl

end Go.Proofs.YtfbppiamlolfpaaGreat.Sc
