/- SealEdges: the walk. -/
import Derived.Test.YtjejghfeeonghaaDoorSey
import Derived.Test.YtjejghfeeonghaaDoorSej
namespace Go.Proofs.YtjejghfeeonghaaDoor.sealEdgesW
open Go Go.RowKit Go.Proofs.YtjejghfeeonghaaDoor Go.Proofs.YtjejghfeeonghaaDoor.Au Go.Proofs.YtjejghfeeonghaaDoor.Re Go.Proofs.YtjejghfeeonghaaDoor.Se
set_option linter.unusedVariables false
set_option linter.unusedSimpArgs false

theorem own_putB {w : World} {base : Nat} {a : Option Addr} {n c : Nat} {l : List UInt8} (h : w.ownsRow base 5 1 (.slice a n c) n (vals l)) {j : Nat} (hj : j < n) : ∃ q z, a = some ⟨q, 0, none⟩ ∧ base ≤ q ∧ q < w.heap.size ∧ w.cell? ⟨q, j, none⟩ = some z ∧ w.frozen? ⟨q, j, none⟩ = false ∧ ∀ y : UInt8, (w.setCell ⟨q, j, none⟩ (.int .u8 (y.toNat : Int))).ownsRow base 5 1 (.slice a n c) n (vals (l.set j y)) := by
  have hl : n = l.length := by have := h.1; rw [vals_length, Nat.mul_one] at this; exact this.symm
  rcases h.2 with ⟨h1, h2⟩ | ⟨q, cap, cur, h1, h2, h3, h4, h5, h6, h7⟩
  · omega
  · cases h1
    have hcl : j < cur.size := by
      rw [Nat.mul_one] at h7
      have e := congrArg List.length h7
      rw [List.length_take, vals_length] at e
      simp at e
      omega
    refine ⟨q, cur[j], rfl, h2, lt_heap h3, by simp [World.cell?, h3, hcl], by simp [World.frozen?, h3], fun y => ⟨?_, .inr ⟨q, _, cur.setIfInBounds j (.int .u8 (y.toNat : Int)), rfl, h2, heap_setCell_same _ _ _ _ _ _ h3, h4, h5, by simpa using h6, ?_⟩⟩⟩
    · rw [vals_length, List.length_set, Nat.mul_one]; exact hl.symm
    · rw [Nat.mul_one] at h7 ⊢
      rw [Array.toList_setIfInBounds, List.take_set, h7]
      unfold vals
      rw [List.map_set]

def fillL (N k : Nat) (x : UInt8) : List UInt8 := List.replicate k x ++ List.replicate (N - k) 0

theorem fill_len (N k : Nat) (x : UInt8) (h : k ≤ N) : (fillL N k x).length = N := by simp [fillL]; omega

theorem fill_set (N k : Nat) (x : UInt8) (h : k < N) : (fillL N k x).set k x = fillL N (k + 1) x := by
  unfold fillL
  rw [List.set_append_right _ _ (by simp), List.length_replicate, Nat.sub_self, show N - k = (N - (k + 1)) + 1 by omega, List.replicate_succ, List.set_cons_zero, List.replicate_succ']
  simp

set_option maxHeartbeats 8000000 in
set_option maxRecDepth 100000 in
theorem walk (x0 x1 : Int) (w : World) (h0 : 0 ≤ x0 ∧ x0 < 256) (h1 : 0 ≤ x1 ∧ x1 < 256) (hT : Tabs w) : Calls Tryd.prog 7 #[.int .u8 x0, .int .u8 x1] w fun e' w' => e' = .returned (.bool true) ∧ Below w.heap.size w w' := by
  obtain ⟨i0, hi, hz0, hz1, hz2⟩ := info_parts infoByte
  have HT := Lib.hid hT
  obtain ⟨N, hN⟩ : ∃ N : Nat, x0 % 201 = (N : Int) := ⟨(x0 % 201).toNat, by omega⟩
  have hN2 : N ≤ 200 := by omega
  have g1 : IntKind.i64.wrap x0 = x0 := by rw [IntKind.wrap_i64]; omega
  obtain ⟨b, hb⟩ : ∃ b : UInt8, x1 = (b.toNat : Int) := ⟨UInt8.ofNat x1.toNat, by rw [UInt8.toNat_ofNat_of_lt' (by simp [UInt8.size]; omega)]; omega⟩
  subst hb
  have g2 : x0.tmod 201 = (N : Int) := by rw [Int.tmod_eq_emod_of_nonneg h0.1]; exact hN
  clear hT h0 h1
  go_enter Tryd.func7, Tryd.ntmps7
  go_upto_region 2 with (at_make; refine wpList_make_full w rfl _ _ 56 rfl w.heap.size 5 i0 (.int .u8 0) 1 Tryd.underlying56 hi hz0 hz1 .i64 .i64 _ _ N rfl rfl rfl rfl (by rw [hz2]; omega) (by unfold maxLen; omega) (Nat.le_refl _) ?_)
  intro y1 hown hgrow
  have hb1 : Below w.heap.size w y1 := (Below.refl _ w).grown hgrow (Nat.le_refl _) (fun q hq => by cases hq)
  have HO1 := Lib.hid (show y1.ownsRow w.heap.size 5 1 (.slice (some ⟨w.heap.size, 0, none⟩) N N) N (vals (fillL N 0 b)) from by
    have e : vals (fillL N 0 b) = List.replicate N (.int .u8 0) := by simp [vals, fillL]
    rw [e]; simpa [toList_madeCells_one] using hown)
  have HU1 := Lib.hid hb1
  obtain ⟨qo, hqo⟩ : ∃ q, q = w.heap.size := ⟨_, rfl⟩
  rw [← hqo] at HO1 ⊢
  have HQO := Lib.hid hqo
  clear hown hgrow hb1 hqo
  go_wp2_with fail
  go_loopw [13] (fun iv wr => ∃ k : Nat, k ≤ N ∧ iv = .int .i64 k ∧ Hid (wr.ownsRow qo 5 1 (.slice (some ⟨qo, 0, none⟩) N N) N (vals (fillL N k b))) ∧ Hid (Below w.heap.size w wr)) (fun iv _ => N - (intOf iv).toNat)
  case atStart => exact ⟨0, by omega, rfl, HO1, HU1⟩
  case round =>
    obtain ⟨k, hk, rfl, HO, HU⟩ := hrel
    by_cases hlt : k < N
    · have hlt' : (k : Int) < N := by omega
      obtain ⟨q, z, hq, -, -, hc, hf, hput⟩ := own_putB HO.out hlt
      cases hq
      have HP := Lib.hid (hput b)
      clear hput
      go_wp2_with fail
      go_roundw
      case rel => exact ⟨k + 1, by omega, by go_num, Lib.hid (by rw [← fill_set N k b hlt]; exact HP.out), Lib.hid (HU.out.setCell (by show w.heap.size ≤ qo; have := HQO.out; omega) _)⟩
      case measure => simp [intOf]; omega
    · have hge : ¬ (k : Int) < N := by omega
      obtain ⟨l, hl⟩ : ∃ l, l = fillL N k b := ⟨_, rfl⟩
      obtain ⟨n, hn⟩ : ∃ n, n = N := ⟨_, rfl⟩
      obtain ⟨a, ha⟩ : ∃ a : Option Addr, a = some ⟨qo, 0, none⟩ := ⟨_, rfl⟩
      obtain ⟨c, hc⟩ : ∃ c, c = N := ⟨_, rfl⟩
      have HN := Lib.hid (show n = l.length by rw [hn, hl, fill_len _ _ _ hk])
      have h5 : n ≤ 5000 := by omega
      obtain ⟨y0, hy0⟩ : ∃ y, wr = y := ⟨_, rfl⟩
      have HU0 := Lib.hid (show Below w.heap.size w y0 by rw [← hy0]; exact HU.out)
      have HB0 := Lib.hid (show BsC y0 (.slice a n c) l by
        rw [← hy0, ha, hc, hl]
        have e := HO.out
        rw [hn]
        have h := own_bsc (l := fillL N k b) (v := .slice (some ⟨qo, 0, none⟩) N N) (base := qo) (w := wr) (by rw [fill_len _ _ _ hk]; exact e)
        exact h)
      have ET := Lib.hid (show (Value.slice (some ⟨qo, 0, none⟩) N N) = .slice a n c by rw [ha, hn, hc])
      clear hl hn ha hc HO HU
      rw [ET.out, hy0]
      clear hy0
      go_wp2_with fail
      refine (awake_any y0 (HT.out.on HU0.out)).mono ?_
      rintro e y1 ⟨rfl, hb1⟩
      have HU1 := Lib.hid (HU0.out.trans (hb1.mono HU0.out.size))
      have HB1 := Lib.hid (HB0.out.on hb1)
      clear hb1 HU0 HB0
      go_wp2_with fail
      have r2 := heap_alloc_last y1 (.cells #[.slice a n c] 56)
      have h2 := Ve.below_n1 y1 (.cells #[.slice a n c] 56)
      obtain ⟨y2, hy2⟩ : ∃ y, y1.alloc (.cells #[.slice a n c] 56) = y := ⟨_, rfl⟩
      have hs2 : y2.heap.size = y1.heap.size + 1 := by rw [← hy2]; simp
      rw [hy2] at r2 h2 ⊢
      have HU2 := Lib.hid (HU1.out.trans (h2.mono HU1.out.size))
      have HB2 := Lib.hid (HB1.out.on h2)
      have HLT := Lib.hid (show ∀ ad n' c', Value.slice a n c = .slice (some ad) n' c' → l ≠ [] → ad.block < y1.heap.size from fun ad n' c' e hne => by
        rcases HB1.out with ⟨_, h⟩ | ⟨ad', cap', h1, _, h3⟩
        · exact absurd h hne
        · cases e
          cases h1
          have hp : 0 < l.length := List.length_pos_iff.2 hne
          have h4 := h3 0 (.int .u8 ((l[0]'hp).toNat : Int)) (by unfold vals; rw [List.getElem?_map, List.getElem?_eq_getElem hp]; rfl)
          have h5 := World.block_lt_of_cell? _ _ h4
          rwa [ad_block] at h5)
      have HR2 := Lib.hid r2
      have HS2 := Lib.hid hs2
      clear hy2 h2 r2 hs2 HU1 HB1
      refine (of_any (.slice (some ⟨y1.heap.size, 0, none⟩) 1 1) [l] y2 (fun w' g hb hg => ?_) (by simp) (HT.out.on HU2.out) (by have := HN.out; simp only [List.flatten_cons, List.flatten_nil, List.append_nil]; omega)).mono ?_
      · have h2 := (hb.block _ (lt_heap HR2.out)).trans HR2.out
        have := HS2.out
        exact parts_one h2 (by omega) (HB2.out.on hb) (fun ad n' c' e hne => by have := HLT.out ad n' c' e hne; omega)
      rintro e y3 ⟨rfl, hb3⟩
      rw [show ([l] : List (List UInt8)).flatten = l by simp]
      obtain ⟨D, hD⟩ : ∃ D, D = (nums .u8 (sha l)).toArray := ⟨_, rfl⟩
      rw [← hD]
      have HD := Lib.hid hD
      have HU3 := Lib.hid (HU2.out.trans (hb3.mono HU2.out.size))
      have HB3 := Lib.hid (HB2.out.on hb3)
      clear hD hb3 HU2 HB2 HR2 HS2 HLT
      go_wp2_with fail
      refine (make_any y3).mono ?_
      rintro e y4 ⟨rfl, hb4⟩
      have HU4 := Lib.hid (HU3.out.trans (hb4.mono HU3.out.size))
      have HB4 := Lib.hid (HB3.out.on hb4)
      clear hb4 HU3 HB3
      obtain ⟨R, hR⟩ : ∃ R, R = (nums .u32 tbl).toArray := ⟨_, rfl⟩
      rw [← hR]
      have HRR := Lib.hid (show ∀ W, BsC W (.slice a n c) l → Calls Tryd.prog 33 #[.agg R, .slice a n c] W fun e' w' => e' = .returned (.agg D) ∧ Below W.heap.size W w' from fun W hW => by
        rw [hR, HD.out]
        exact rof_any _ l W hW (by have := HN.out; omega))
      clear hR
      go_wp2_with fail
      refine (HRR.out y4 HB4.out).mono ?_
      rintro e y5 ⟨rfl, hb5⟩
      have hqD : ∀ W, (Op.equalIn 10000 70 (.agg D) (.agg D)).run Tryd.prog W = .ok true W := fun W => by rw [HD.out]; exact eq_dig _ (sha_len _) W
      go_wp2
      go_ret
      exact ⟨rfl, HU4.out.trans (hb5.mono HU4.out.size)⟩

end Go.Proofs.YtjejghfeeonghaaDoor.sealEdgesW
