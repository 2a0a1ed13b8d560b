/- Trees: Make of up to 140 pairs, by both sides; two pairs alike; an empty tree's depth. -/
import Derived.Test.YtoppcnkfgmbpfaaG1
import Derived.Test.YtoppcnkfgmbpfaaE51
namespace Go.Proofs.Ytoppcnkfgmbpfaa.Tr
open Go.RowKit Go.Proofs.Ytoppcnkfgmbpfaa Go.Proofs.Ytoppcnkfgmbpfaa.Wa Go.Proofs.Ytoppcnkfgmbpfaa.Ve Go.Proofs.Ytoppcnkfgmbpfaa.Au Go.Proofs.Ytoppcnkfgmbpfaa.Bx
set_option linter.unusedVariables false
set_option linter.unusedSimpArgs false

theorem eq_b6d (d : Nat) (a b c d' e f : Int) (W : World) : (Op.equalIn (d + 3) 49 (.agg #[.int .i64 a, .int .i64 b, .int .i64 c, .int .i64 d', .int .i64 e, .int .i64 f]) (.agg #[.int .i64 a, .int .i64 b, .int .i64 c, .int .i64 d', .int .i64 e, .int .i64 f])).run Try.prog W = .ok true W := by
  rw [run_equalIn_struct W (d + 2) 49 _ _ (by kernel_rfl) (by kernel_rfl)]
  simp only [Program.fieldsOf, Try.underlying49, Op.eqFields]
  have hv := fun x y z => eq_v3d d x y z
  simp [go_sem, hv]

theorem eq_b12 (p0 p1 p2 p3 p4 p5 p6 p7 p8 p9 p10 p11 : Int) (W : World) : (Op.equalIn 10000 51 (.agg #[.int .i64 p0, .int .i64 p1, .int .i64 p2, .int .i64 p3, .int .i64 p4, .int .i64 p5, .int .i64 p6, .int .i64 p7, .int .i64 p8, .int .i64 p9, .int .i64 p10, .int .i64 p11]) (.agg #[.int .i64 p0, .int .i64 p1, .int .i64 p2, .int .i64 p3, .int .i64 p4, .int .i64 p5, .int .i64 p6, .int .i64 p7, .int .i64 p8, .int .i64 p9, .int .i64 p10, .int .i64 p11])).run Try.prog W = .ok true W := by
  rw [run_equalIn_struct W 9999 51 _ _ (by kernel_rfl) (by kernel_rfl)]
  simp only [Program.fieldsOf, Try.underlying51, Op.eqFields]
  have hv := fun a b c d e f => eq_b6d 9996 a b c d e f
  simp [go_sem, hv]

/-- what Make makes of n pairs: none of none, or of too many -/
def mk2 (PL : Nat → Int) (n : Nat) : List Nd × List Nat := if 128 < n then ([], []) else mk PL n

theorem mk2_len (PL : Nat → Int) (n : Nat) : (mk2 PL n).2.length ≤ 128 ∧ (mk2 PL n).1.length ≤ 256 := by
  unfold mk2
  split
  · simp
  · have := mk_len PL n
    omega

theorem make2 (PL : Nat → Int) (n b : Nat) (h2 : n ≤ 140) (v : Value) (w : World) (hv : w.ownsRow b 43 12 v n (flat12 PL n)) :
    Calls Try.prog 6 #[v] w fun e w' => (∃ t, e = .returned t ∧ TreeP PL w.heap.size (mk2 PL n).1 (mk2 PL n).2 t w') ∧ Below w.heap.size w w' := by
  by_cases h : 128 < n
  · obtain ⟨a, k, rfl⟩ := own_slice hv
    unfold mk2
    rw [if_pos h]
    refine (make_none a n k (Or.inr h) (by omega) w).mono ?_
    rintro e w' ⟨rfl, hb⟩
    exact ⟨⟨_, rfl, _, _, rfl, World.ownsRow_nil _ _ _ _, World.ownsRow_nil _ _ _ _⟩, hb⟩
  · unfold mk2
    rw [if_neg h]
    exact make_own PL n b (by omega) v w hv

theorem rmake2 (PL : Nat → Int) (n c : Nat) (a : Option Addr) (h2 : n ≤ 140) (w : World) (hv : Ni.Nums 12 w a n PL) :
    Calls Try.prog 8 #[.slice a n c] w fun e w' => (∃ t, e = .returned t ∧ TreeR PL w.heap.size (mk2 PL n).1 (mk2 PL n).2 t w') ∧ Below w.heap.size w w' := by
  by_cases h : n = 0 ∨ 128 < n
  · have e : mk2 PL n = ([], []) := by
      unfold mk2 mk
      rcases h with h | h
      · rw [if_neg (by omega), if_pos h]
      · rw [if_pos h]
    rw [e]
    refine (rmake_none a n c h (by omega) w).mono ?_
    rintro e w' ⟨rfl, hb⟩
    exact ⟨⟨_, rfl, _, _, rfl, ⟨World.ownsRow_nil _ _ _ _, World.ownsRow_nil _ _ _ _⟩⟩, hb⟩
  · have e : mk2 PL n = grow PL n (List.range n) 0 0 := by
      unfold mk2
      rw [if_neg (by omega), mk_pos PL n (by omega)]
    rw [e]
    obtain ⟨-, h0 | ⟨g, o, rfl, hg, hc⟩⟩ := hv
    · exact absurd h0 (by omega)
    · exact rmake_l PL n g o c (by omega) (by omega) w hg hc

def deepN (PL : Nat → Int) (n : Nat) : Int := if n = 0 ∨ 128 < n then 0 else height PL n (List.range n)

theorem mk2_pos (PL : Nat → Int) (n : Nat) (h : ¬ (n = 0 ∨ 128 < n)) : mk2 PL n = grow PL n (List.range n) 0 0 := by
  unfold mk2
  rw [if_neg (by omega), mk_pos PL n (by omega)]

theorem mk2_none (PL : Nat → Int) (n : Nat) (h : n = 0 ∨ 128 < n) : mk2 PL n = ([], []) := by
  unfold mk2 mk
  rcases h with h | h
  · rw [if_neg (by omega), if_pos h]
  · rw [if_pos h]

theorem D_mk2 (PL : Nat → Int) (n : Nat) : (D (mk2 PL n).1.length (mk2 PL n).1 (mk2 PL n).1.length).1 = deepN PL n := by
  unfold deepN
  by_cases h : n = 0 ∨ 128 < n
  · rw [if_pos h, mk2_none PL n h]
    rfl
  · rw [if_neg h, mk2_pos PL n h]
    have h2 := (druns_seg PL (grow PL n (List.range n) 0 0).1.length n (List.range n) 0 0 0 (fun _ => 0) (by simp; omega) (by simp) (by omega)).1
    have h3 := height_pos PL n (List.range n)
    unfold D
    rw [List.take_length, h2]
    omega

theorem rdeep2 (PL : Nat → Int) (n b : Nat) (v vo : Value) (w : World) (hvo : ∃ a m k, vo = .slice a m k) (hr : w.ownsRow b 53 16 v (mk2 PL n).1.length (flatNd PL (mk2 PL n).1)) :
    Calls Try.prog 10 #[.agg #[v, vo], .int .i64 0] w fun e w' => e = .returned (.int .i64 (deepN PL n)) ∧ Below w.heap.size w w' := by
  obtain ⟨a, m, k, rfl⟩ := hvo
  unfold deepN
  by_cases h : n = 0 ∨ 128 < n
  · rw [if_pos h]
    rw [mk2_none PL n h] at hr
    rcases hr.2 with ⟨rfl, -⟩ | ⟨g, cap, cur, rfl, -⟩
    · exact rdeep_nil none 0 a m k w
    · exact rdeep_nil _ cap a m k w
  · rw [if_neg h]
    rw [mk2_pos PL n h] at hr
    have hl := grow_len PL n (List.range n) 0 0 (by simp; omega) (by simp)
    rcases hr.2 with ⟨-, hx⟩ | ⟨g, cap, cur, rfl, -⟩
    · exact absurd hx (by omega)
    · exact rdeep_f PL (grow PL n (List.range n) 0 0).1 b g cap a m k (by rw [List.length_range] at hl; omega) n (by omega) (List.range n) 0 0 (by simp; omega) (by simp) (fun i hi => by rw [Nat.zero_add]) w hr

end Go.Proofs.Ytoppcnkfgmbpfaa.Tr
