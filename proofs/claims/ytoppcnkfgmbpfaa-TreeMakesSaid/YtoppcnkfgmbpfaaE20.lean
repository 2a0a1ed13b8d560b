/- The document's ends of some points whose row begins anywhere in a block. -/
import Derived.Test.YtoppcnkfgmbpfaaE19
namespace Go.Proofs.Ytoppcnkfgmbpfaa.Ve
open Go.RowKit Go.Proofs.Ytoppcnkfgmbpfaa Go.Proofs.Ytoppcnkfgmbpfaa.Wa

/-- a row of numbers, three a point, from a place in a block on -/
def NumsF (w : World) (g o n : Nat) (L : Nat → Int) : Prop := g < w.heap.size ∧ ∀ j, j < n * 3 → w.cell? ⟨g, o + j, none⟩ = some (.int .i64 (L j))

theorem NumsF.on {w w' : World} {g o n : Nat} {L : Nat → Int} (h : NumsF w g o n L) (hb : Below w.heap.size w w') : NumsF w' g o n L :=
  ⟨Nat.lt_of_lt_of_le h.1 hb.size, fun j hj => (hb.cell (p := ⟨g, o + j, none⟩) h.1).trans (h.2 j hj)⟩

set_option maxHeartbeats 4000000 in
set_option maxRecDepth 100000 in
theorem ends_o (gl o n cap : Nat) (L : Nat → Int) (hn : 1 ≤ n) (hm : n ≤ 4611686018427387904) (w : World) (hp : NumsF w gl o n L) :
    Calls Try.prog 52 #[.slice (some ⟨gl, o, none⟩) n cap] w fun e w' => e = .returned (.tuple #[V3 (lo L 0 n) (lo L 1 n) (lo L 2 n), V3 (hig L 0 n) (hig L 1 n) (hig L 2 n)]) ∧ Below w.heap.size w w' := by
  have HP := Lib.hid hp
  have c0 : w.cell? ⟨gl, o, none⟩ = some (.int .i64 (L 0)) := hp.2 0 (by omega)
  have c1 : w.cell? ⟨gl, o + 1, none⟩ = some (.int .i64 (L 1)) := hp.2 1 (by omega)
  have c2 : w.cell? ⟨gl, o + 2, none⟩ = some (.int .i64 (L 2)) := hp.2 2 (by omega)
  have l0 := hp.1
  have l1 : gl < w.heap.size + 1 := by omega
  have l2 : gl < w.heap.size + 1 + 1 := by omega
  have l3 : gl < w.heap.size + 1 + 1 + 1 := by omega
  have hn0 : (0 : Int) < (n : Int) := by omega
  have hn1 : 0 < n := by omega
  clear hp
  go_enter Try.func52, Try.ntmps52
  go_upto_region 1 with fail
  go_cut [4, 5] (fun s4 s5 wx => ∃ g h : Nat, s4 = .pointer (some ⟨g, 0, none⟩) ∧ s5 = .pointer (some ⟨h, 0, none⟩) ∧ Two w g h L L wx)
  case first =>
    go_region_held3 (fun w' => w'.cell? ⟨gl, o, none⟩ = some (.int .i64 (L 0)) ∧ w'.cell? ⟨gl, o + 1, none⟩ = some (.int .i64 (L 1)) ∧ w'.cell? ⟨gl, o + 2, none⟩ = some (.int .i64 (L 2))) (first | (go_keep; done) | ((try dsimp only); refine ⟨?_, ?_, ?_⟩ <;> (go_simp; done))) (fail)
    all_goals (go_wp2_with fail; go_meet; refine ⟨_, _, rfl, rfl, ?_, ?_, ?_, ?_, ?_, ?_, ?_, ?_, ?_, ?_, ?_, ?_⟩)
    all_goals first
      | omega
      | (intro j hj; match j, hj with | 0, _ => (go_simp; done) | 1, _ => (go_simp; done) | 2, _ => (go_simp; done))
      | (intro j; go_simp; done)
      | (repeat (first | exact Below.refl _ _ | apply Below.drew | (refine Below.alloc ?_ (by first | (simp; done) | (simp; omega)) _)))
  case rest =>
    obtain ⟨g, h, rfl, rfl, hm0⟩ := hcut
    have HM := Lib.hid hm0
    clear hm0 c0 c1 c2
    go_wp2
    go_loopw [6] (fun s6 wr => ∃ K : Nat, 1 ≤ K ∧ K ≤ n ∧ s6 = .int .i64 K ∧ Two w g h (fun j => lo L j K) (fun j => hig L j K) wr) (fun s6 _ => n - (intOf s6).toNat)
    case atStart => exact ⟨1, Nat.le_refl _, hn, rfl, HM.out.congr (fun j _ => lo_one L j) (fun j _ => hig_one L j)⟩
    case round =>
      obtain ⟨K, hK1, hKn, rfl, hm1⟩ := hrel
      have HM1 := Lib.hid hm1
      clear hm1
      by_cases hlt : K < n
      · go_wp2
        obtain ⟨wo, rfl⟩ : ∃ wo : World, wo = wr := ⟨_, rfl⟩
        go_loopw [7] (fun s7 wi => ∃ i : Nat, i ≤ 3 ∧ s7 = .int .i64 i ∧ Two w g h (fun j => if j < i then lo L j (K + 1) else lo L j K) (fun j => if j < i then hig L j (K + 1) else hig L j K) wi) (fun s7 _ => 3 - (intOf s7).toNat)
        case atStart => exact ⟨0, by omega, rfl, HM1.out.congr (fun j _ => by simp) (fun j _ => by simp)⟩
        case round =>
          obtain ⟨i, hi3, rfl, hm2⟩ := hrel
          by_cases hi : i < 3
          · have ec := (HP.out.on hm2.2.2.2.2.2.2.2.2.2.2.2).2 (K * 3 + i) (by omega)
            rw [← Nat.add_assoc] at ec
            have gc := hm2.2.2.2.1 i hi
            have hc := hm2.2.2.2.2.1 i hi
            simp only [if_neg (show ¬ i < i by omega)] at gc hc
            have gf := hm2.2.2.2.2.2.1 i
            have hf := hm2.2.2.2.2.2.2.1 i
            have ng := hm2.2.2.1
            have ng' := Ne.symm ng
            have HM2 := Lib.hid hm2
            clear hm2
            by_cases t1 : L (K * 3 + i) < lo L i K
            · by_cases t2 : hig L i K < L (K * 3 + i)
              · have a1 : lo L i (K + 1) = L (K * 3 + i) := (lo_step L i K).trans (by omega)
                have a2 : hig L i (K + 1) = L (K * 3 + i) := (hig_step L i K).trans (by omega)
                go_wp2_with fail
                go_quiet (fail)
                go_wp2
                go_quiet (fail)
                go_wp2
                try go_roundw
                all_goals first
                  | (exact ⟨i + 1, by omega, rfl, (((HM2.out.draws _).stepg hi a1).draws _).steph hi a2⟩)
                  | (exact ⟨i + 1, by omega, rfl, ((HM2.out.draws _).stepg hi a1).steph hi a2⟩)
                  | (exact ⟨⟨i + 1, by omega, rfl, (((HM2.out.draws _).stepg hi a1).draws _).steph hi a2⟩, by simp [intOf]; omega⟩)
                  | (simp [intOf]; omega)
                  | trace_state
              · have a1 : lo L i (K + 1) = L (K * 3 + i) := (lo_step L i K).trans (by omega)
                have a2 : hig L i (K + 1) = hig L i K := (hig_step L i K).trans (by omega)
                go_wp2_with fail
                go_quiet (fail)
                go_wp2
                go_quiet (fail)
                go_wp2
                try go_roundw
                all_goals first
                  | (exact ⟨i + 1, by omega, rfl, (((HM2.out.draws _).stepg hi a1).draws _).keeph a2⟩)
                  | (exact ⟨i + 1, by omega, rfl, ((HM2.out.draws _).stepg hi a1).keeph a2⟩)
                  | (exact ⟨⟨i + 1, by omega, rfl, (((HM2.out.draws _).stepg hi a1).draws _).keeph a2⟩, by simp [intOf]; omega⟩)
                  | (simp [intOf]; omega)
                  | trace_state
            · by_cases t2 : hig L i K < L (K * 3 + i)
              · have a1 : lo L i (K + 1) = lo L i K := (lo_step L i K).trans (by omega)
                have a2 : hig L i (K + 1) = L (K * 3 + i) := (hig_step L i K).trans (by omega)
                go_wp2_with fail
                go_quiet (fail)
                go_wp2
                go_quiet (fail)
                go_wp2
                try go_roundw
                all_goals first
                  | (exact ⟨i + 1, by omega, rfl, (((HM2.out.draws _).keepg a1).draws _).steph hi a2⟩)
                  | (exact ⟨i + 1, by omega, rfl, ((HM2.out.draws _).keepg a1).steph hi a2⟩)
                  | (exact ⟨⟨i + 1, by omega, rfl, (((HM2.out.draws _).keepg a1).draws _).steph hi a2⟩, by simp [intOf]; omega⟩)
                  | (simp [intOf]; omega)
                  | trace_state
              · have a1 : lo L i (K + 1) = lo L i K := (lo_step L i K).trans (by omega)
                have a2 : hig L i (K + 1) = hig L i K := (hig_step L i K).trans (by omega)
                go_wp2_with fail
                go_quiet (fail)
                go_wp2
                go_quiet (fail)
                go_wp2
                try go_roundw
                all_goals first
                  | (exact ⟨i + 1, by omega, rfl, (((HM2.out.draws _).keepg a1).draws _).keeph a2⟩)
                  | (exact ⟨i + 1, by omega, rfl, ((HM2.out.draws _).keepg a1).keeph a2⟩)
                  | (exact ⟨⟨i + 1, by omega, rfl, (((HM2.out.draws _).keepg a1).draws _).keeph a2⟩, by simp [intOf]; omega⟩)
                  | (simp [intOf]; omega)
                  | trace_state
          · have e3 : i = 3 := by omega
            subst e3
            have n0 : ¬ (((3 : Nat) : Int) < 3) := by omega
            go_wp2_with fail
            go_roundw
            case rel => exact ⟨K + 1, by omega, by omega, rfl, hm2.congr (fun j hj => by simp only [if_pos hj]) (fun j hj => by simp only [if_pos hj])⟩
            case measure => simp [intOf]; omega
      · have eK : K = n := by omega
        subst eK
        have m := HM1.out
        have a0 := m.2.2.2.1 0 (by omega)
        have a1 := m.2.2.2.1 1 (by omega)
        have a2 := m.2.2.2.1 2 (by omega)
        have b0 := m.2.2.2.2.1 0 (by omega)
        have b1 := m.2.2.2.2.1 1 (by omega)
        have b2 := m.2.2.2.2.1 2 (by omega)
        have z0 := m.2.2.2.2.2.2.2.1 0 (by omega)
        have z1 := m.2.2.2.2.2.2.2.1 1 (by omega)
        have z2 := m.2.2.2.2.2.2.2.1 2 (by omega)
        have y0 := m.2.2.2.2.2.2.2.2.1 0 (by omega)
        have y1 := m.2.2.2.2.2.2.2.2.1 1 (by omega)
        have y2 := m.2.2.2.2.2.2.2.2.1 2 (by omega)
        have zf := m.2.2.2.2.2.2.2.2.2.1
        have yf := m.2.2.2.2.2.2.2.2.2.2.1
        have n1 : w.heap.size ≠ g := by have := m.1; omega
        have n2 : w.heap.size ≠ h := by have := m.2.1; omega
        have n3 : w.heap.size + 1 ≠ g := by have := m.1; omega
        have n4 : w.heap.size + 1 ≠ h := by have := m.2.1; omega
        have n1' := Ne.symm n1
        have n2' := Ne.symm n2
        have n3' := Ne.symm n3
        have n4' := Ne.symm n4
        have n5 : w.heap.size ≠ w.heap.size + 1 := by omega
        have n5' := Ne.symm n5
        have hbe := m.2.2.2.2.2.2.2.2.2.2.2
        clear m
        go_wp2_with fail
        go_region
        all_goals go_wp2_with fail
        all_goals
          have hw := below_put3 (below_put3 hbe (k := w.heap.size) (by omega) (.int .i64 (lo L 0 K)) (.int .i64 (lo L 1 K)) (.int .i64 (lo L 2 K))) (k := w.heap.size + 1) (by omega) (.int .i64 (hig L 0 K)) (.int .i64 (hig L 1 K)) (.int .i64 (hig L 2 K))
          exact bodyPost_ret (v := .tuple #[V3 (lo L 0 K) (lo L 1 K) (lo L 2 K), V3 (hig L 0 K) (hig L 1 K) (hig L 2 K)]) (by simp [results, Try.results52, go_sem, z0, z1, z2, y0, y1, y2]) rfl ⟨rfl, hw.drew⟩

end Go.Proofs.Ytoppcnkfgmbpfaa.Ve
