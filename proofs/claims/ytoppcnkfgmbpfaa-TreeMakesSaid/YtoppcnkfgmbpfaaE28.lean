/- Trees: the document's Both of some shapes' pairs. -/
import Derived.Test.YtoppcnkfgmbpfaaE25
import Derived.Test.YtoppcnkfgmbpfaaE27
namespace Go.Proofs.Ytoppcnkfgmbpfaa.Tr
open Go.RowKit Go.Proofs.Ytoppcnkfgmbpfaa Go.Proofs.Ytoppcnkfgmbpfaa.Wa Go.Proofs.Ytoppcnkfgmbpfaa.Ve Go.Proofs.Ytoppcnkfgmbpfaa.Au Go.Proofs.Ytoppcnkfgmbpfaa.Bx
set_option linter.unusedVariables false
set_option linter.unusedSimpArgs false

/-- the numbers of some shapes' pairs, one behind the other -/
def pl (PL : Nat → Int) (l : List Nat) (j : Nat) : Int := PL (l.getD (j / 12) 0 * 12 + j % 12)

theorem pl_at (PL : Nat → Int) (l : List Nat) (k c : Nat) (hc : c < 12) : pl PL l (k * 12 + c) = PL (l.getD k 0 * 12 + c) := by
  unfold pl
  rw [show (k * 12 + c) / 12 = k by omega, show (k * 12 + c) % 12 = c by omega]

def flat12 (L : Nat → Int) (k : Nat) : List Value := (List.range (k * 12)).map fun j => .int .i64 (L j)

theorem flat12_step (L : Nat → Int) (k : Nat) : flat12 L (k + 1) = flat12 L k ++ [.int .i64 (L (k * 12)), .int .i64 (L (k * 12 + 1)), .int .i64 (L (k * 12 + 2)), .int .i64 (L (k * 12 + 3)), .int .i64 (L (k * 12 + 4)), .int .i64 (L (k * 12 + 5)), .int .i64 (L (k * 12 + 6)), .int .i64 (L (k * 12 + 7)), .int .i64 (L (k * 12 + 8)), .int .i64 (L (k * 12 + 9)), .int .i64 (L (k * 12 + 10)), .int .i64 (L (k * 12 + 11))] := by
  simp [flat12, show (k + 1) * 12 = k * 12 + 1 + 1 + 1 + 1 + 1 + 1 + 1 + 1 + 1 + 1 + 1 + 1 by omega, List.range_succ]

theorem flat12_at (L : Nat → Int) (k j : Nat) (h : j < k * 12) : (flat12 L k)[j]? = some (.int .i64 (L j)) := by
  simp [flat12, h]

theorem infoPairR : (Try.prog.info? 51).map (fun i => (i.zero, i.size, i.bytes)) = some (some (.agg #[.int .i64 0, .int .i64 0, .int .i64 0, .int .i64 0, .int .i64 0, .int .i64 0, .int .i64 0, .int .i64 0, .int .i64 0, .int .i64 0, .int .i64 0, .int .i64 0]), 12, 96) := by kernel_rfl

set_option maxHeartbeats 4000000 in
set_option maxRecDepth 100000 in
theorem rboth_l (PL : Nat → Int) (N : Nat) (l : List Nat) (h1 : 1 ≤ l.length) (hm : l.length ≤ 1000) (hN : N ≤ 1000) (hlt : ∀ j, j < l.length → l.getD j 0 < N) (gp op pc gl ol lc : Nat) (w : World) (hgp : gp < w.heap.size) (hgl : gl < w.heap.size)
    (hp : ∀ j, j < N * 12 → w.cell? ⟨gp, op + j, none⟩ = some (.int .i64 (PL j))) (hl : ∀ j, j < l.length → w.cell? ⟨gl, ol + j, none⟩ = some (.int .i64 ((l.getD j 0 : Nat) : Int))) :
    Calls Try.prog 21 #[.slice (some ⟨gp, op, none⟩) N pc, .slice (some ⟨gl, ol, none⟩) l.length lc] w fun e w' => e = .returned (.agg #[.int .i64 (lo6 (La (pl PL l)) 0 l.length), .int .i64 (lo6 (La (pl PL l)) 1 l.length), .int .i64 (lo6 (La (pl PL l)) 2 l.length), .int .i64 (hi6 (La (pl PL l)) 0 l.length), .int .i64 (hi6 (La (pl PL l)) 1 l.length), .int .i64 (hi6 (La (pl PL l)) 2 l.length), .int .i64 (lo6 (Lb (pl PL l)) 0 l.length), .int .i64 (lo6 (Lb (pl PL l)) 1 l.length), .int .i64 (lo6 (Lb (pl PL l)) 2 l.length), .int .i64 (hi6 (Lb (pl PL l)) 0 l.length), .int .i64 (hi6 (Lb (pl PL l)) 1 l.length), .int .i64 (hi6 (Lb (pl PL l)) 2 l.length)]) ∧ Below w.heap.size w w' := by

  obtain ⟨i0, hi, hz0, hz1, hz2⟩ := info_parts infoPairR
  have HPP := Lib.hid hp
  have HLL := Lib.hid hl
  have HLT := Lib.hid hlt
  clear hp hl hlt
  go_enter Try.func21, Try.ntmps21
  go_upto_region 1 with fail
  have hR := Au.rows1 w (.cells #[.int .i64 0, .int .i64 0, .int .i64 0, .int .i64 0, .int .i64 0, .int .i64 0, .int .i64 0, .int .i64 0, .int .i64 0, .int .i64 0, .int .i64 0, .int .i64 0] 51)
  have HUx := below_n1 w (.cells #[.int .i64 0, .int .i64 0, .int .i64 0, .int .i64 0, .int .i64 0, .int .i64 0, .int .i64 0, .int .i64 0, .int .i64 0, .int .i64 0, .int .i64 0, .int .i64 0] 51)
  obtain ⟨y0, hy0⟩ : ∃ y0, w.alloc (.cells #[.int .i64 0, .int .i64 0, .int .i64 0, .int .i64 0, .int .i64 0, .int .i64 0, .int .i64 0, .int .i64 0, .int .i64 0, .int .i64 0, .int .i64 0, .int .i64 0] 51) = y0 := ⟨_, rfl⟩
  rw [hy0] at hR HUx ⊢
  clear hy0
  have HU0 := Lib.hid HUx
  clear HUx
  have hr0_0 := hR
  clear hR
  have HR0 := Lib.hid hr0_0
  have hsw := HU0.out.size
  have hlr := lt_heap hr0_0
  go_upto_region 3 with fail
  go_loopw [5, 6] (fun v i wr => ∃ k : Nat, k ≤ l.length ∧ i = .int .i64 k ∧ Hid (wr.ownsRow y0.heap.size 51 12 v k (flat12 (pl PL l) k)) ∧ Hid (Below y0.heap.size y0 wr)) (fun _ i _ => l.length - (intOf i).toNat)
  case atStart => exact ⟨0, by omega, rfl, Lib.hid (by simpa [flat12] using World.ownsRow_nil _ _ _ _), Lib.hid (Below.refl _ _)⟩
  case round =>
    obtain ⟨k, hk, rfl, HO, HB⟩ := hrel
    have hbs := HB.out.size
    by_cases hlt' : k < l.length
    · have hki : (k : Int) < l.length := by omega
      obtain ⟨x, hx⟩ : ∃ x, x = l.getD k 0 := ⟨_, rfl⟩
      have hxN : x < N := by rw [hx]; exact HLT.out k hlt'
      have hxi : (x : Int) < N := by omega
      have cl : wr.cell? ⟨gl, ol + k, none⟩ = some (.int .i64 (x : Int)) := by rw [hx]; exact (HB.out.cell (p := ⟨gl, ol + k, none⟩) (by show gl < y0.heap.size; omega)).trans ((HU0.out.cell (p := ⟨gl, ol + k, none⟩) hgl).trans (HLL.out k hlt'))
      have HX := Lib.hid hx
      clear hx
      have cp : ∀ c, c < 12 → wr.cell? ⟨gp, op + (x * 12 + c), none⟩ = some (.int .i64 (PL (x * 12 + c))) := fun c hc => (HB.out.cell (p := ⟨gp, op + (x * 12 + c), none⟩) (by show gp < y0.heap.size; omega)).trans ((HU0.out.cell (p := ⟨gp, op + (x * 12 + c), none⟩) hgp).trans (HPP.out _ (by omega)))
      have cp0 : wr.cell? ⟨gp, op + x * 12, none⟩ = some (.int .i64 (PL (x * 12))) := by have := cp 0 (by omega); rw [show op + (x * 12 + 0) = op + x * 12 by omega] at this; exact this
      have cp1 : wr.cell? ⟨gp, op + x * 12 + 1, none⟩ = some (.int .i64 (PL (x * 12 + 1))) := by have := cp 1 (by omega); rw [show op + (x * 12 + 1) = op + x * 12 + 1 by omega] at this; exact this
      have cp2 : wr.cell? ⟨gp, op + x * 12 + 2, none⟩ = some (.int .i64 (PL (x * 12 + 2))) := by have := cp 2 (by omega); rw [show op + (x * 12 + 2) = op + x * 12 + 2 by omega] at this; exact this
      have cp3 : wr.cell? ⟨gp, op + x * 12 + 3, none⟩ = some (.int .i64 (PL (x * 12 + 3))) := by have := cp 3 (by omega); rw [show op + (x * 12 + 3) = op + x * 12 + 3 by omega] at this; exact this
      have cp4 : wr.cell? ⟨gp, op + x * 12 + 4, none⟩ = some (.int .i64 (PL (x * 12 + 4))) := by have := cp 4 (by omega); rw [show op + (x * 12 + 4) = op + x * 12 + 4 by omega] at this; exact this
      have cp5 : wr.cell? ⟨gp, op + x * 12 + 5, none⟩ = some (.int .i64 (PL (x * 12 + 5))) := by have := cp 5 (by omega); rw [show op + (x * 12 + 5) = op + x * 12 + 5 by omega] at this; exact this
      have cp6 : wr.cell? ⟨gp, op + x * 12 + 6, none⟩ = some (.int .i64 (PL (x * 12 + 6))) := by have := cp 6 (by omega); rw [show op + (x * 12 + 6) = op + x * 12 + 6 by omega] at this; exact this
      have cp7 : wr.cell? ⟨gp, op + x * 12 + 7, none⟩ = some (.int .i64 (PL (x * 12 + 7))) := by have := cp 7 (by omega); rw [show op + (x * 12 + 7) = op + x * 12 + 7 by omega] at this; exact this
      have cp8 : wr.cell? ⟨gp, op + x * 12 + 8, none⟩ = some (.int .i64 (PL (x * 12 + 8))) := by have := cp 8 (by omega); rw [show op + (x * 12 + 8) = op + x * 12 + 8 by omega] at this; exact this
      have cp9 : wr.cell? ⟨gp, op + x * 12 + 9, none⟩ = some (.int .i64 (PL (x * 12 + 9))) := by have := cp 9 (by omega); rw [show op + (x * 12 + 9) = op + x * 12 + 9 by omega] at this; exact this
      have cp10 : wr.cell? ⟨gp, op + x * 12 + 10, none⟩ = some (.int .i64 (PL (x * 12 + 10))) := by have := cp 10 (by omega); rw [show op + (x * 12 + 10) = op + x * 12 + 10 by omega] at this; exact this
      have cp11 : wr.cell? ⟨gp, op + x * 12 + 11, none⟩ = some (.int .i64 (PL (x * 12 + 11))) := by have := cp 11 (by omega); rw [show op + (x * 12 + 11) = op + x * 12 + 11 by omega] at this; exact this
      clear cp
      have HI := Lib.hid (HO.out.alloc (.cells #[.int .i64 (PL (x * 12)), .int .i64 (PL (x * 12 + 1)), .int .i64 (PL (x * 12 + 2)), .int .i64 (PL (x * 12 + 3)), .int .i64 (PL (x * 12 + 4)), .int .i64 (PL (x * 12 + 5)), .int .i64 (PL (x * 12 + 6)), .int .i64 (PL (x * 12 + 7)), .int .i64 (PL (x * 12 + 8)), .int .i64 (PL (x * 12 + 9)), .int .i64 (PL (x * 12 + 10)), .int .i64 (PL (x * 12 + 11))] 51))
      have hx1 : ∀ j u, ([.int .i64 (PL (x * 12)), .int .i64 (PL (x * 12 + 1)), .int .i64 (PL (x * 12 + 2)), .int .i64 (PL (x * 12 + 3)), .int .i64 (PL (x * 12 + 4)), .int .i64 (PL (x * 12 + 5)), .int .i64 (PL (x * 12 + 6)), .int .i64 (PL (x * 12 + 7)), .int .i64 (PL (x * 12 + 8)), .int .i64 (PL (x * 12 + 9)), .int .i64 (PL (x * 12 + 10)), .int .i64 (PL (x * 12 + 11))] : List Value)[j]? = some u → (wr.alloc (.cells #[.int .i64 (PL (x * 12)), .int .i64 (PL (x * 12 + 1)), .int .i64 (PL (x * 12 + 2)), .int .i64 (PL (x * 12 + 3)), .int .i64 (PL (x * 12 + 4)), .int .i64 (PL (x * 12 + 5)), .int .i64 (PL (x * 12 + 6)), .int .i64 (PL (x * 12 + 7)), .int .i64 (PL (x * 12 + 8)), .int .i64 (PL (x * 12 + 9)), .int .i64 (PL (x * 12 + 10)), .int .i64 (PL (x * 12 + 11))] 51)).cell? ((⟨wr.heap.size, 0, none⟩ : Addr).add j) = some u := by
        intro j u hj
        match j, hj with
        | 0, hj => simp at hj; subst hj; simp [Addr.add]
        | 1, hj => simp at hj; subst hj; simp [Addr.add]
        | 2, hj => simp at hj; subst hj; simp [Addr.add]
        | 3, hj => simp at hj; subst hj; simp [Addr.add]
        | 4, hj => simp at hj; subst hj; simp [Addr.add]
        | 5, hj => simp at hj; subst hj; simp [Addr.add]
        | 6, hj => simp at hj; subst hj; simp [Addr.add]
        | 7, hj => simp at hj; subst hj; simp [Addr.add]
        | 8, hj => simp at hj; subst hj; simp [Addr.add]
        | 9, hj => simp at hj; subst hj; simp [Addr.add]
        | 10, hj => simp at hj; subst hj; simp [Addr.add]
        | 11, hj => simp at hj; subst hj; simp [Addr.add]
      have HX1 := Lib.hid hx1
      clear hx1
      have HX2 := Lib.hid (show ∀ u ∈ ([.int .i64 (PL (x * 12)), .int .i64 (PL (x * 12 + 1)), .int .i64 (PL (x * 12 + 2)), .int .i64 (PL (x * 12 + 3)), .int .i64 (PL (x * 12 + 4)), .int .i64 (PL (x * 12 + 5)), .int .i64 (PL (x * 12 + 6)), .int .i64 (PL (x * 12 + 7)), .int .i64 (PL (x * 12 + 8)), .int .i64 (PL (x * 12 + 9)), .int .i64 (PL (x * 12 + 10)), .int .i64 (PL (x * 12 + 11))] : List Value), u.oneCell' = true by intro u hu; simp only [List.mem_cons, List.not_mem_nil, or_false] at hu; rcases hu with rfl | rfl | rfl | rfl | rfl | rfl | rfl | rfl | rfl | rfl | rfl | rfl <;> rfl)
      have HST := Lib.hid (show flat12 (pl PL l) (k + 1) = flat12 (pl PL l) k ++ [.int .i64 (PL (x * 12)), .int .i64 (PL (x * 12 + 1)), .int .i64 (PL (x * 12 + 2)), .int .i64 (PL (x * 12 + 3)), .int .i64 (PL (x * 12 + 4)), .int .i64 (PL (x * 12 + 5)), .int .i64 (PL (x * 12 + 6)), .int .i64 (PL (x * 12 + 7)), .int .i64 (PL (x * 12 + 8)), .int .i64 (PL (x * 12 + 9)), .int .i64 (PL (x * 12 + 10)), .int .i64 (PL (x * 12 + 11))] by
        rw [flat12_step, show pl PL l (k * 12) = PL (x * 12) by have := pl_at PL l k 0 (by omega); rw [← HX.out] at this; exact this]
        rw [pl_at PL l k 1 (by omega), pl_at PL l k 2 (by omega), pl_at PL l k 3 (by omega), pl_at PL l k 4 (by omega), pl_at PL l k 5 (by omega), pl_at PL l k 6 (by omega), pl_at PL l k 7 (by omega), pl_at PL l k 8 (by omega), pl_at PL l k 9 (by omega), pl_at PL l k 10 (by omega), pl_at PL l k 11 (by omega)]
        rw [← HX.out])
      go_wp2_with (first | (at_builtin; refine wpList_append_own _ rfl _ _ 22 rfl y0.heap.size 51 i0 (.agg #[.int .i64 0, .int .i64 0, .int .i64 0, .int .i64 0, .int .i64 0, .int .i64 0, .int .i64 0, .int .i64 0, .int .i64 0, .int .i64 0, .int .i64 0, .int .i64 0]) 12 96 Try.underlying22 hi hz0 hz1 hz2 rfl (by decide) _ _ _ rfl HI.out ⟨wr.heap.size, 0, none⟩ 1 1 [.int .i64 (PL (x * 12)), .int .i64 (PL (x * 12 + 1)), .int .i64 (PL (x * 12 + 2)), .int .i64 (PL (x * 12 + 3)), .int .i64 (PL (x * 12 + 4)), .int .i64 (PL (x * 12 + 5)), .int .i64 (PL (x * 12 + 6)), .int .i64 (PL (x * 12 + 7)), .int .i64 (PL (x * 12 + 8)), .int .i64 (PL (x * 12 + 9)), .int .i64 (PL (x * 12 + 10)), .int .i64 (PL (x * 12 + 11))] rfl rfl HX1.out HX2.out ?c3 ?c4 ?c5 ?_))
      case c3 => unfold maxLen; omega
      case c4 => omega
      case c5 => (first | omega | (simp; omega))
      intro v2 w2 hown hgrow _
      have HB2 := Lib.hid ((HB.out.alloc hbs _).grown hgrow (by simp; omega) (fun q hq => (HO.out.lt q hq).1))
      rw [← HST.out] at hown
      have HO2 := Lib.hid hown
      clear hown hgrow HST HX1 HX2 HI
      go_wp2_with fail
      go_roundw
      case rel => exact ⟨k + 1, by omega, by go_num, HO2, HB2⟩
      case measure => simp [intOf]; omega
    · have HKK := Lib.hid (show k = l.length by omega)
      have hnl : ¬ (k : Int) < (l.length : Int) := by omega
      rcases HO.out.2 with ⟨-, h0⟩ | ⟨gb, cap, cur, hv, hb, h3, -⟩
      · omega
      · subst hv
        have hcc : ∀ j, j < k * 12 → wr.cell? ⟨gb, 0 + j, none⟩ = some (.int .i64 (pl PL l j)) := fun j hj => by rw [Nat.zero_add]; exact (HO.out.cellAt j (by omega)).trans (flat12_at _ _ _ hj)
        have HCC := Lib.hid hcc
        have hgg := lt_heap h3
        have hk1 : 1 ≤ k := by omega
        have hk2 : k ≤ 1000000 := by omega
        obtain ⟨y5, rfl⟩ : ∃ y : World, y = wr := ⟨_, rfl⟩
        have HU5 := Lib.hid (HU0.out.trans (HB.out.mono HU0.out.size))
        have hr5_0 := (HB.out.block _ hlr).trans HR0.out
        clear hcc h3 hb HO hlt' hk HR0 hr0_0
  
        go_wp2_with fail
        refine (rboth_row gb 0 k cap (pl PL l) hk1 hk2 _ hgg HCC.out).mono ?_
        rintro e y6 ⟨rfl, hb6⟩
        have hr6_0 := (hb6.block _ (lt_heap hr5_0)).trans hr5_0
        have HU6 := Lib.hid (HU5.out.trans (hb6.mono HU5.out.size))
        clear hr5_0 HU5
        have hHr := Lib.hid hr6_0
        have hHi := Lib.hid (show (Try.prog.info? 51).map (·.size) = some (#[.int .i64 (lo6 (La (pl PL l)) 0 k), .int .i64 (lo6 (La (pl PL l)) 1 k), .int .i64 (lo6 (La (pl PL l)) 2 k), .int .i64 (hi6 (La (pl PL l)) 0 k), .int .i64 (hi6 (La (pl PL l)) 1 k), .int .i64 (hi6 (La (pl PL l)) 2 k), .int .i64 (lo6 (Lb (pl PL l)) 0 k), .int .i64 (lo6 (Lb (pl PL l)) 1 k), .int .i64 (lo6 (Lb (pl PL l)) 2 k), .int .i64 (hi6 (Lb (pl PL l)) 0 k), .int .i64 (hi6 (Lb (pl PL l)) 1 k), .int .i64 (hi6 (Lb (pl PL l)) 2 k)] : Array Value).size by kernel_rfl)
        have hHz := Lib.hid (show (#[.int .i64 0, .int .i64 0, .int .i64 0, .int .i64 0, .int .i64 0, .int .i64 0, .int .i64 0, .int .i64 0, .int .i64 0, .int .i64 0, .int .i64 0, .int .i64 0] : Array Value).size = (#[.int .i64 (lo6 (La (pl PL l)) 0 k), .int .i64 (lo6 (La (pl PL l)) 1 k), .int .i64 (lo6 (La (pl PL l)) 2 k), .int .i64 (hi6 (La (pl PL l)) 0 k), .int .i64 (hi6 (La (pl PL l)) 1 k), .int .i64 (hi6 (La (pl PL l)) 2 k), .int .i64 (lo6 (Lb (pl PL l)) 0 k), .int .i64 (lo6 (Lb (pl PL l)) 1 k), .int .i64 (lo6 (Lb (pl PL l)) 2 k), .int .i64 (hi6 (Lb (pl PL l)) 0 k), .int .i64 (hi6 (Lb (pl PL l)) 1 k), .int .i64 (hi6 (Lb (pl PL l)) 2 k)] : Array Value).size from rfl)
        have hHo := Lib.hid (show (#[.int .i64 (lo6 (La (pl PL l)) 0 k), .int .i64 (lo6 (La (pl PL l)) 1 k), .int .i64 (lo6 (La (pl PL l)) 2 k), .int .i64 (hi6 (La (pl PL l)) 0 k), .int .i64 (hi6 (La (pl PL l)) 1 k), .int .i64 (hi6 (La (pl PL l)) 2 k), .int .i64 (lo6 (Lb (pl PL l)) 0 k), .int .i64 (lo6 (Lb (pl PL l)) 1 k), .int .i64 (lo6 (Lb (pl PL l)) 2 k), .int .i64 (hi6 (Lb (pl PL l)) 0 k), .int .i64 (hi6 (Lb (pl PL l)) 1 k), .int .i64 (hi6 (Lb (pl PL l)) 2 k)] : Array Value).all (·.oneCell') = true by simp [Value.oneCell'])
        go_wp2_with (first | (refine Au.wpList_store_row rfl 51 (.tmp 4) (.tmp 24) rfl y6 #[.int .i64 0, .int .i64 0, .int .i64 0, .int .i64 0, .int .i64 0, .int .i64 0, .int .i64 0, .int .i64 0, .int .i64 0, .int .i64 0, .int .i64 0, .int .i64 0] #[.int .i64 (lo6 (La (pl PL l)) 0 k), .int .i64 (lo6 (La (pl PL l)) 1 k), .int .i64 (lo6 (La (pl PL l)) 2 k), .int .i64 (hi6 (La (pl PL l)) 0 k), .int .i64 (hi6 (La (pl PL l)) 1 k), .int .i64 (hi6 (La (pl PL l)) 2 k), .int .i64 (lo6 (Lb (pl PL l)) 0 k), .int .i64 (lo6 (Lb (pl PL l)) 1 k), .int .i64 (lo6 (Lb (pl PL l)) 2 k), .int .i64 (hi6 (Lb (pl PL l)) 0 k), .int .i64 (hi6 (Lb (pl PL l)) 1 k), .int .i64 (hi6 (Lb (pl PL l)) 2 k)] (w.heap.size) 51 hHr.out rfl rfl hHi.out hHz.out hHo.out ?_))
        clear hHr hHi hHz hHo
        have hN := setRow_heap _ (w.heap.size) _ #[.int .i64 (lo6 (La (pl PL l)) 0 k), .int .i64 (lo6 (La (pl PL l)) 1 k), .int .i64 (lo6 (La (pl PL l)) 2 k), .int .i64 (hi6 (La (pl PL l)) 0 k), .int .i64 (hi6 (La (pl PL l)) 1 k), .int .i64 (hi6 (La (pl PL l)) 2 k), .int .i64 (lo6 (Lb (pl PL l)) 0 k), .int .i64 (lo6 (Lb (pl PL l)) 1 k), .int .i64 (lo6 (Lb (pl PL l)) 2 k), .int .i64 (hi6 (Lb (pl PL l)) 0 k), .int .i64 (hi6 (Lb (pl PL l)) 1 k), .int .i64 (hi6 (Lb (pl PL l)) 2 k)] _ _ hr6_0
        have hsz := HU6.out.size
        have HUx := below_setRow (g := w.heap.size) HU6.out (by first | omega | (simp at *; omega)) #[.int .i64 (lo6 (La (pl PL l)) 0 k), .int .i64 (lo6 (La (pl PL l)) 1 k), .int .i64 (lo6 (La (pl PL l)) 2 k), .int .i64 (hi6 (La (pl PL l)) 0 k), .int .i64 (hi6 (La (pl PL l)) 1 k), .int .i64 (hi6 (La (pl PL l)) 2 k), .int .i64 (lo6 (Lb (pl PL l)) 0 k), .int .i64 (lo6 (Lb (pl PL l)) 1 k), .int .i64 (lo6 (Lb (pl PL l)) 2 k), .int .i64 (hi6 (Lb (pl PL l)) 0 k), .int .i64 (hi6 (Lb (pl PL l)) 1 k), .int .i64 (hi6 (Lb (pl PL l)) 2 k)]
        have hO : ∀ kk, kk ≠ w.heap.size → (y6.setRow (w.heap.size) #[.int .i64 (lo6 (La (pl PL l)) 0 k), .int .i64 (lo6 (La (pl PL l)) 1 k), .int .i64 (lo6 (La (pl PL l)) 2 k), .int .i64 (hi6 (La (pl PL l)) 0 k), .int .i64 (hi6 (La (pl PL l)) 1 k), .int .i64 (hi6 (La (pl PL l)) 2 k), .int .i64 (lo6 (Lb (pl PL l)) 0 k), .int .i64 (lo6 (Lb (pl PL l)) 1 k), .int .i64 (lo6 (Lb (pl PL l)) 2 k), .int .i64 (hi6 (Lb (pl PL l)) 0 k), .int .i64 (hi6 (Lb (pl PL l)) 1 k), .int .i64 (hi6 (Lb (pl PL l)) 2 k)]).heap[kk]? = y6.heap[kk]? := fun kk hk => setRow_other _ _ _ _ hk
        obtain ⟨y7, hy7⟩ : ∃ y, y6.setRow (w.heap.size) #[.int .i64 (lo6 (La (pl PL l)) 0 k), .int .i64 (lo6 (La (pl PL l)) 1 k), .int .i64 (lo6 (La (pl PL l)) 2 k), .int .i64 (hi6 (La (pl PL l)) 0 k), .int .i64 (hi6 (La (pl PL l)) 1 k), .int .i64 (hi6 (La (pl PL l)) 2 k), .int .i64 (lo6 (Lb (pl PL l)) 0 k), .int .i64 (lo6 (Lb (pl PL l)) 1 k), .int .i64 (lo6 (Lb (pl PL l)) 2 k), .int .i64 (hi6 (Lb (pl PL l)) 0 k), .int .i64 (hi6 (Lb (pl PL l)) 1 k), .int .i64 (hi6 (Lb (pl PL l)) 2 k)] = y := ⟨_, rfl⟩
        rw [hy7] at hN HUx hO ⊢
        clear hy7 hsz
        have HU7 := Lib.hid HUx
        clear HUx
        have hr7_0 := hN
        clear hN hO
        clear hr6_0 HU6
        have c0_0 := cell_of_row _ _ 0 _ _ _ hr7_0
        have c0_1 := cell_of_row _ _ 1 _ _ _ hr7_0
        have c0_2 := cell_of_row _ _ 2 _ _ _ hr7_0
        have c0_3 := cell_of_row _ _ 3 _ _ _ hr7_0
        have c0_4 := cell_of_row _ _ 4 _ _ _ hr7_0
        have c0_5 := cell_of_row _ _ 5 _ _ _ hr7_0
        have c0_6 := cell_of_row _ _ 6 _ _ _ hr7_0
        have c0_7 := cell_of_row _ _ 7 _ _ _ hr7_0
        have c0_8 := cell_of_row _ _ 8 _ _ _ hr7_0
        have c0_9 := cell_of_row _ _ 9 _ _ _ hr7_0
        have c0_10 := cell_of_row _ _ 10 _ _ _ hr7_0
        have c0_11 := cell_of_row _ _ 11 _ _ _ hr7_0
        simp at c0_0 c0_1 c0_2 c0_3 c0_4 c0_5 c0_6 c0_7 c0_8 c0_9 c0_10 c0_11
        go_wp2
        exact bodyPost_ret (v := .agg #[.int .i64 (lo6 (La (pl PL l)) 0 k), .int .i64 (lo6 (La (pl PL l)) 1 k), .int .i64 (lo6 (La (pl PL l)) 2 k), .int .i64 (hi6 (La (pl PL l)) 0 k), .int .i64 (hi6 (La (pl PL l)) 1 k), .int .i64 (hi6 (La (pl PL l)) 2 k), .int .i64 (lo6 (Lb (pl PL l)) 0 k), .int .i64 (lo6 (Lb (pl PL l)) 1 k), .int .i64 (lo6 (Lb (pl PL l)) 2 k), .int .i64 (hi6 (Lb (pl PL l)) 0 k), .int .i64 (hi6 (Lb (pl PL l)) 1 k), .int .i64 (hi6 (Lb (pl PL l)) 2 k)]) (by simp [results, Try.results21, go_sem, c0_0, c0_1, c0_2, c0_3, c0_4, c0_5, c0_6, c0_7, c0_8, c0_9, c0_10, c0_11]) rfl ⟨by rw [HKK.out], HU7.out⟩

end Go.Proofs.Ytoppcnkfgmbpfaa.Tr
