/- Layer 22: words as bytes, by the program. -/
import Derived.Test.YtndpidmbfdpiaaaDoorK12
namespace Go.Proofs.YtndpidmbfdpiaaaDoor.Se
open Go Go.RowKit Go.Proofs.YtndpidmbfdpiaaaDoor Go.Proofs.YtndpidmbfdpiaaaDoor.Au Go.Proofs.YtndpidmbfdpiaaaDoor.Re
set_option linter.unusedVariables false
set_option linter.unusedSimpArgs false

/-- a byte of words -/
def digB (l : List Int) (i : Nat) : Int := l.getD (i / 4) 0 / 2 ^ (8 * (3 - i % 4)) % 256

/-- the first m bytes of words, then none -/
def digs (l : List Int) (m : Nat) : List Int := (List.range 32).map fun i => if i < m then digB l i else 0

def dig (v : V8) : List Int := digs v.l 32

theorem digs_len (l : List Int) (m : Nat) : (digs l m).length = 32 := by simp [digs]

theorem digs_set (l : List Int) (m : Nat) : (digs l m).set m (digB l m) = digs l (m + 1) := by
  unfold digs
  apply List.ext_getElem
  · simp
  · intro n h1 h2
    rw [List.getElem_set]
    simp only [List.getElem_map, List.getElem_range]
    by_cases e : m = n
    · subst e; simp
    · rw [if_neg e]
      by_cases h : n < m
      · rw [if_pos h, if_pos (by omega)]
      · rw [if_neg h, if_neg (by omega)]

abbrev Y32 : Array Value := #[.int .u8 0, .int .u8 0, .int .u8 0, .int .u8 0, .int .u8 0, .int .u8 0, .int .u8 0, .int .u8 0, .int .u8 0, .int .u8 0, .int .u8 0, .int .u8 0, .int .u8 0, .int .u8 0, .int .u8 0, .int .u8 0, .int .u8 0, .int .u8 0, .int .u8 0, .int .u8 0, .int .u8 0, .int .u8 0, .int .u8 0, .int .u8 0, .int .u8 0, .int .u8 0, .int .u8 0, .int .u8 0, .int .u8 0, .int .u8 0, .int .u8 0, .int .u8 0]

theorem y32_nums (l : List Int) : Y32 = (nums .u8 (digs l 0)).toArray := rfl

set_option maxHeartbeats 4000000 in
set_option maxRecDepth 100000 in
theorem digest_go (va vb vc vd ve vf vg vh : Int) (w : World) : Calls Tryd.prog 41 #[.agg #[.int .u32 va, .int .u32 vb, .int .u32 vc, .int .u32 vd, .int .u32 ve, .int .u32 vf, .int .u32 vg, .int .u32 vh]] w fun e' w' => e' = .returned (.agg (nums .u8 (digs [va, vb, vc, vd, ve, vf, vg, vh] 32)).toArray) ∧ Below w.heap.size w w' := by
  go_enter Tryd.func41, Tryd.ntmps41
  go_upto_region 2 with fail
  have hR := Au.rows3 w (.cells #[.int .u32 va, .int .u32 vb, .int .u32 vc, .int .u32 vd, .int .u32 ve, .int .u32 vf, .int .u32 vg, .int .u32 vh] 84) (.cells Y32 33) (.cells Y32 33)
  have HUx := Ve.below_n3 w (.cells #[.int .u32 va, .int .u32 vb, .int .u32 vc, .int .u32 vd, .int .u32 ve, .int .u32 vf, .int .u32 vg, .int .u32 vh] 84) (.cells Y32 33) (.cells Y32 33)
  obtain ⟨y0, hy0⟩ : ∃ y0, ((w.alloc (.cells #[.int .u32 va, .int .u32 vb, .int .u32 vc, .int .u32 vd, .int .u32 ve, .int .u32 vf, .int .u32 vg, .int .u32 vh] 84)).alloc (.cells Y32 33)).alloc (.cells Y32 33) = y0 := ⟨_, rfl⟩
  rw [hy0] at hR HUx ⊢
  clear hy0
  obtain ⟨hs0, hr0, hq0⟩ := hR
  obtain ⟨r, hre⟩ : ∃ r, r = w.heap.size + 1 := ⟨_, rfl⟩
  obtain ⟨q, hqe⟩ : ∃ q, q = w.heap.size + 1 + 1 := ⟨_, rfl⟩
  rw [← hqe] at hq0 ⊢
  rw [← hre] at hr0 ⊢
  have hrq : r < q := by omega
  have hwr : w.heap.size ≤ r := by omega
  clear hre hqe
  have HU0 := Lib.hid HUx
  have HR0 := Lib.hid hr0
  rw [y32_nums [va, vb, vc, vd, ve, vf, vg, vh]] at hq0
  have HQ0 := Lib.hid hq0
  clear HUx hr0 hq0
  have p0 := cell_of_row _ _ 0 _ _ _ hs0
  have p1 := cell_of_row _ _ 1 _ _ _ hs0
  have p2 := cell_of_row _ _ 2 _ _ _ hs0
  have p3 := cell_of_row _ _ 3 _ _ _ hs0
  have p4 := cell_of_row _ _ 4 _ _ _ hs0
  have p5 := cell_of_row _ _ 5 _ _ _ hs0
  have p6 := cell_of_row _ _ 6 _ _ _ hs0
  have p7 := cell_of_row _ _ 7 _ _ _ hs0
  simp at p0 p1 p2 p3 p4 p5 p6 p7
  go_wp2_with fail
  clear p0 p1 p2 p3 p4 p5 p6 p7 hs0
  go_loopw [8] (fun i wr => ∃ k : Nat, k ≤ 8 ∧ i = .int .i64 k ∧ Hid (wr.heap[q]? = some (.cells (nums .u8 (digs [va, vb, vc, vd, ve, vf, vg, vh] (4 * k))).toArray 33 (0, 0))) ∧ Hid (wr.heap[r]? = some (.cells Y32 33 (0, 0))) ∧ Hid (Below w.heap.size w wr)) (fun i _ => 8 - (intOf i).toNat)
  case atStart => exact ⟨0, by omega, rfl, HQ0, HR0, HU0⟩
  case round =>
    obtain ⟨k, hk, rfl, HQ, HR, HU⟩ := hrel
    by_cases hlt : k < 8
    · have hlt' : (k : Int) < 8 := by omega
      obtain ⟨x, HX⟩ : ∃ x, Hid (x = ([va, vb, vc, vd, ve, vf, vg, vh] : List Int).getD k 0) := ⟨_, Lib.hid rfl⟩
      have hix : ∀ W, (Instr.index 84 (.agg #[.int .u32 va, .int .u32 vb, .int .u32 vc, .int .u32 vd, .int .u32 ve, .int .u32 vf, .int .u32 vg, .int .u32 vh]) (.int .i64 (k : Int))).run Tryd.prog W = .ok (.int .u32 x) W := fun W => by rw [HX.out]; exact index8w [va, vb, vc, vd, ve, vf, vg, vh] rfl k hlt W
      go_wp2_with fail
      clear hix
      go_loopw [12] (fun j wr => ∃ m : Nat, m ≤ 4 ∧ j = .int .i64 m ∧ Hid (wr.heap[q]? = some (.cells (nums .u8 (digs [va, vb, vc, vd, ve, vf, vg, vh] (4 * k + m))).toArray 33 (0, 0))) ∧ Hid (wr.heap[r]? = some (.cells Y32 33 (0, 0))) ∧ Hid (Below w.heap.size w wr)) (fun j _ => 4 - (intOf j).toNat)
      case atStart => exact ⟨0, by omega, rfl, HQ, HR, HU⟩
      case round =>
        obtain ⟨m, hm, rfl, HQ2, HR2, HU2⟩ := hrel
        by_cases hlm : m < 4
        · have hlm' : (m : Int) < 4 := by omega
          obtain ⟨s, HS⟩ : ∃ s : Nat, Hid (s = 8 * (3 - m)) := ⟨_, Lib.hid rfl⟩
          obtain ⟨i, HI⟩ : ∃ i : Nat, Hid (i = 4 * k + m) := ⟨_, Lib.hid rfl⟩
          have hsh : (8 * (3 - (m : Int))) = (s : Int) := by have := HS.out; omega
          have hii : ((k : Int) * 4 + (m : Int)) = (i : Int) := by have := HI.out; omega
          have hi32 : (i : Int) < 32 := by have := HI.out; omega
          have hil : i < 32 := by omega
          rw [← HI.out] at HQ2
          obtain ⟨z, hz⟩ := (show ∃ z, wr.cell? ⟨q, i, none⟩ = some z from ⟨_, row_at HQ2.out (by rw [digs_len]; exact hil)⟩)
          have hpf := row_free HQ2.out i
          have HB_ := Lib.hid (show x / 2 ^ s % 256 = digB [va, vb, vc, vd, ve, vf, vg, vh] i by unfold digB; rw [HX.out, HS.out, show i / 4 = k by have := HI.out; omega, show i % 4 = m by have := HI.out; omega])
          go_wp2_with fail
          go_roundw
          case rel =>
            refine ⟨m + 1, by omega, by go_num, Lib.hid ?_, Lib.hid ?_, Lib.hid ?_⟩
            · rw [HB_.out, show 4 * k + (m + 1) = i + 1 by have := HI.out; omega, ← digs_set]
              exact row_put HQ2.out i _
            · exact (Below.heap_setCell _ _ _ _ (by show r ≠ q; omega)).trans HR2.out
            · exact HU2.out.setCell (by show w.heap.size ≤ q; omega) _
          case measure => simp [intOf]; omega
        · have hge4 : ¬ (m : Int) < 4 := by omega
          go_wp2_with fail
          go_roundw
          case rel => exact ⟨k + 1, by omega, by go_num, by rw [show 4 * (k + 1) = 4 * k + m by omega]; exact HQ2, HR2, HU2⟩
          case measure => simp [intOf]; omega
    · have hge : ¬ (k : Int) < 8 := by omega
      have hQ : wr.heap[q]? = some (.cells (nums .u8 (digs [va, vb, vc, vd, ve, vf, vg, vh] 32)).toArray 33 (0, 0)) := by have := HQ.out; rwa [show 4 * k = 32 by omega] at this
      obtain ⟨R2, hRe⟩ : ∃ R, R = (nums .u8 (digs [va, vb, vc, vd, ve, vf, vg, vh] 32)).toArray := ⟨_, rfl⟩
      have hRs : R2.size = 32 := by rw [hRe]; simp [nums_length, digs_len]
      have hRo : R2.all (·.oneCell') = true := by rw [hRe]; exact all_oneCell_toArray (nums_one _ _)
      rw [← hRe] at hQ
      have HE := Lib.hid hRe
      have HQ3 := Lib.hid hQ
      have HSZ := Lib.hid (show (Tryd.prog.info? 33).map (·.size) = some R2.size by rw [hRs]; kernel_rfl)
      have HZZ := Lib.hid (show Y32.size = R2.size by rw [hRs]; rfl)
      have HOO := Lib.hid hRo
      clear hQ hRe hRs hRo HQ
      go_wp2_with (first | (with_reducible refine wpList_load_row rfl 33 (.tmp 3) rfl q rfl 33 R2 (0, 0) _ HQ3.out Tryd.underlying33 rfl HSZ.out ?_) | (refine Au.wpList_store_row rfl 33 (.tmp 2) (.tmp 28) rfl wr Y32 R2 r 33 HR.out rfl rfl HSZ.out HZZ.out HOO.out ?_))
      have hN2 := setRow_heap wr r _ R2 _ _ HR.out
      exact bodyPost_ret (v := .agg R2) (results_cell_row Tryd.results41 _ _ r 33 R2 (0, 0) _ rfl hN2 Tryd.underlying33 rfl HSZ.out) rfl ⟨by rw [HE.out], below_setRow (g := r) HU.out (by omega) R2⟩

theorem digest_any (v : V8) (w : World) : Calls Tryd.prog 41 #[.agg (nums .u32 v.l).toArray] w fun e' w' => e' = .returned (.agg (nums .u8 (dig v)).toArray) ∧ Below w.heap.size w w' := by
  obtain ⟨a, b, c, d, e, f, g, h⟩ := v
  exact digest_go a b c d e f g h w

theorem stirred_any (v : V8) (g o : Nat) (B : List UInt8) (w : World) (hB : BlkAt w g o B) (hg : g < w.heap.size) (hT : Tabs w) : Calls Tryd.prog 45 #[.agg (nums .u32 v.l).toArray, .pointer (some ⟨g, o, none⟩)] w fun e' w' => e' = .returned (.agg (nums .u32 (stir v B).l).toArray) ∧ Below w.heap.size w w' := by
  obtain ⟨a, b, c, d, e, f, x, h⟩ := v
  exact stirred_go a b c d e f x h g o B w hB hg hT

end Go.Proofs.YtndpidmbfdpiaaaDoor.Se
