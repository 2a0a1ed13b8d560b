/- Jobs: the document's Parse (under way). -/
import Derived.Test.YtplcbdmiccpnnaaGreatC32
import Derived.Test.YtplcbdmiccpnnaaGreatC45
import Derived.Test.YtplcbdmiccpnnaaGreatC44
import Derived.Test.YtplcbdmiccpnnaaGreatC31
import Derived.Test.YtplcbdmiccpnnaaGreatC43
import Derived.Test.YtplcbdmiccpnnaaGreatC23
import Derived.Deep.CutBlock
namespace Go.Proofs.YtplcbdmiccpnnaaGreat.Jd
open Go Go.RowKit Go.Proofs.YtplcbdmiccpnnaaGreat Go.Proofs.YtplcbdmiccpnnaaGreat.Rp Go.Proofs.YtplcbdmiccpnnaaGreat.Re Go.Proofs.YtplcbdmiccpnnaaGreat.Au Go.Proofs.YtplcbdmiccpnnaaGreat.Jb
open Go.Proofs.YtplcbdmiccpnnaaGreat.Sc (Scn Pla chk rcheck_any)
set_option linter.unusedVariables false
set_option linter.unusedSimpArgs false

theorem mat_near {g N : Nat} {a : Option Addr} {n c : Nat} {lb : List UInt8} {s : St} {w w' : World} (h : MAt g N a n c lb s w) (hb : Below (g + 1) w w') : MAt g N a n c lb s w' := by
  obtain ⟨h1, h2, h3, h4, h5, h6, h7, h8, p, h9, h10, h11⟩ := h
  refine ⟨h1, Nat.lt_of_lt_of_le h2 hb.size, fun j => (hb.frozen (p := ⟨g, j, none⟩) (Nat.lt_succ_self g)).trans (h3 j), (hb.cell (p := ⟨g, 0, none⟩) (Nat.lt_succ_self g)).trans h4, (hb.cell (p := ⟨g, 2, none⟩) (Nat.lt_succ_self g)).trans h5, ?_, h7, h8, p, h9, h10, (hb.cell (p := ⟨g, 1, none⟩) (Nat.lt_succ_self g)).trans h11⟩
  rcases h6 with h | ⟨ad, cap, h, hc⟩
  · exact .inl h
  · cases h
    refine .inr ⟨ad, c, rfl, fun j v hv => ?_⟩
    have hne := h8 ad rfl (fun e => by subst e; simp [vals] at hv)
    rw [hb.cell (p := ad.add j) (by rw [ad_block]; omega)]
    exact hc j v hv

theorem dinfo_paint : (Tryz.prog.info? 74).map (fun i => (i.zero, i.size, i.bytes)) = some (some (.agg #[.int .i64 0, .int .i64 0, .int .i64 0, .int .i64 0, .int .i64 0]), 5, 40) := by kernel_rfl

theorem dinfo_joint : (Tryz.prog.info? 81).map (fun i => (i.zero, i.size, i.bytes)) = some (some (.agg #[.int .i64 0, .int .i64 0, .int .i64 0, .int .i64 0]), 4, 32) := by kernel_rfl

theorem dinfo_shape : (Tryz.prog.info? 85).map (fun i => (i.zero, i.size, i.bytes)) = some (some (.agg #[.int .i64 0, .int .i64 0, .int .i64 0, .int .i64 0, .int .i64 0, .int .i64 0, .int .i64 0, .int .i64 0, .int .i64 0, .int .i64 0, .int .i64 0, .int .i64 0, .int .i64 0]), 13, 104) := by kernel_rfl

theorem own_via {w w' : World} {base n c : Nat} {e : TypeId} {v : Value} {xs : List Value} (h : w.ownsRow base e c v n xs) (hk : ∀ q, v.ownBlock = some q → w'.heap[q]? = w.heap[q]?) : w'.ownsRow base e c v n xs := by
  refine ⟨h.1, ?_⟩
  rcases h.2 with hn | ⟨q, cap, cur, rfl, k1, k2, k3⟩
  · exact .inl hn
  · exact .inr ⟨q, cap, cur, rfl, k1, (hk q rfl).trans k2, k3⟩

theorem ownT_on {w w' : World} {base n c : Nat} {e : TypeId} {v : Value} {xs : List Value} (h : w.ownsRow base e c v n xs) (hk : ∀ q, base ≤ q → q < w.heap.size → w'.heap[q]? = w.heap[q]?) : w'.ownsRow base e c v n xs := by
  refine ⟨h.1, ?_⟩
  have hl := fun q hq => h.lt q hq
  rcases h.2 with hn | ⟨q, cap, cur, rfl, k1, k2, k3⟩
  · exact .inl hn
  · exact .inr ⟨q, cap, cur, rfl, k1, (hk q (hl q rfl).1 (hl q rfl).2).trans k2, k3⟩

set_option maxHeartbeats 8000000 in
set_option maxRecDepth 100000 in
theorem dparse_in (l : List UInt8) (ba : Option Addr) (bn bc : Nat) (w : World) (hv : Bs w (.slice ba bn bc) l) (hl : l.length = bn) (h : ¬ 65536 < bn) (hB : ∀ ad, ba = some ad → l ≠ [] → ad.block < w.heap.size) : Calls Tryz.prog 5 #[.slice ba bn bc] w fun e' w' => ((¬ parE l = 0 ∧ e' = .returned (.tuple #[.agg zeroC, .int .i64 (parE l)])) ∨ (parE l = 0 ∧ ∃ a, e' = .returned (.tuple #[Sc.SV (parScn (l, 0)) a, .int .i64 0]) ∧ Sc.ScAt w' (parScn (l, 0)) a)) ∧ Below w.heap.size w w' := by
  have d := decide_eq_false (show ¬ (65536 : Int) < (bn : Int) by omega)
  have HV := Lib.hid hv
  have HB := Lib.hid hB
  clear hv hB
  go_enter Tryz.func5, Tryz.ntmps5
  go_upto_region 1 with fail
  have hR := Au.rows1 w (.cells #[.int .i64 0, .int .i64 0, .int .i64 0, .int .i64 0, .int .i64 0, .int .i64 0, .int .u64 0, .int .i64 0, .int .i64 0, .int .i64 0, .int .i64 0, .int .i64 0, .int .i64 0, .slice none 0 0, .slice none 0 0, .slice none 0 0, .slice none 0 0] 49)
  have HUx := Ve.below_n1 w (.cells #[.int .i64 0, .int .i64 0, .int .i64 0, .int .i64 0, .int .i64 0, .int .i64 0, .int .u64 0, .int .i64 0, .int .i64 0, .int .i64 0, .int .i64 0, .int .i64 0, .int .i64 0, .slice none 0 0, .slice none 0 0, .slice none 0 0, .slice none 0 0] 49)
  obtain ⟨y0, hy0⟩ : ∃ y0, w.alloc (.cells #[.int .i64 0, .int .i64 0, .int .i64 0, .int .i64 0, .int .i64 0, .int .i64 0, .int .u64 0, .int .i64 0, .int .i64 0, .int .i64 0, .int .i64 0, .int .i64 0, .int .i64 0, .slice none 0 0, .slice none 0 0, .slice none 0 0, .slice none 0 0] 49) = y0 := ⟨_, rfl⟩
  rw [hy0] at hR HUx ⊢
  clear hy0
  have HU0 := Lib.hid HUx
  clear HUx
  have hr0_0 := hR
  clear hR
  have hl0_0 := lt_heap hr0_0
  have hz0 := HU0.out.size
  go_upto_region 4 with fail
  clear d
  have hb1 := Ve.below_n1 y0 (.cells #[.slice ba bn bc, .int .i64 0, .int .i64 0] 66)
  have hN := heap_alloc_last y0 (.cells #[.slice ba bn bc, .int .i64 0, .int .i64 0] 66)
  obtain ⟨y1, hy1⟩ : ∃ y, y0.alloc (.cells #[.slice ba bn bc, .int .i64 0, .int .i64 0] 66) = y := ⟨_, rfl⟩
  have hs1 : y1.heap.size = y0.heap.size + 1 := by rw [← hy1]; simp
  rw [hy1] at hb1 hN ⊢
  clear hy1
  have hl1_0 := lt_heap hr0_0
  have hr1_0 := (hb1.block _ (lt_heap hr0_0)).trans hr0_0
  have HU1 := Lib.hid (HU0.out.trans (hb1.mono HU0.out.size))
  clear hr0_0 HU0
  have hr1_1 := hN
  clear hN
  obtain ⟨N, hN⟩ : ∃ N, N = w.heap.size := ⟨_, rfl⟩
  have hNw : N = w.heap.size := hN
  obtain ⟨g, hg⟩ : ∃ g, g = y0.heap.size := ⟨_, rfl⟩
  rw [← hg] at hr1_1 ⊢
  have hgw : w.heap.size < g := by omega
  have hg1 : g < y1.heap.size := by omega
  have HP1 := Lib.hid (show MAt g N ba bn bc l (l, 0) y1 from ⟨by omega, hg1, fun j => by simp [World.frozen?, hr1_1], cell_of_row _ _ 0 _ _ _ hr1_1, cell_of_row _ _ 2 _ _ _ hr1_1, HV.out.on HU1.out, by omega, fun ad e he => by have := HB.out ad e he; omega, 0, Nat.zero_le _, by simp, cell_of_row _ _ 1 _ _ _ hr1_1⟩)
  have HG := Lib.hid hg
  have HNW := Lib.hid hN
  clear hg hN hNw hs1
  go_upto_region 5 with fail
  have hb2 := Ve.below_n1 y1 (.cells #[.int .u64 90, .int .u64 79, .int .u64 69, .int .u64 49] 24)
  have hN := heap_alloc_last y1 (.cells #[.int .u64 90, .int .u64 79, .int .u64 69, .int .u64 49] 24)
  obtain ⟨y2, hy2⟩ : ∃ y, y1.alloc (.cells #[.int .u64 90, .int .u64 79, .int .u64 69, .int .u64 49] 24) = y := ⟨_, rfl⟩
  have hs2 : y2.heap.size = y1.heap.size + 1 := by rw [← hy2]; simp
  rw [hy2] at hb2 hN ⊢
  clear hy2
  have hl2_0 := lt_heap hr1_0
  have hr2_0 := (hb2.block _ (lt_heap hr1_0)).trans hr1_0
  have HU2 := Lib.hid (HU1.out.trans (hb2.mono HU1.out.size))
  clear hr1_0 HU1
  have hr2_1 := hN
  clear hN
  clear hs2
  have HP2 := Lib.hid (HP1.out.on hb2)
  have hz2 := hb2.size
  go_upto_region 6 with fail
  go_loopw [6] (fun i wr => ∃ k : Nat, k ≤ 4 ∧ i = .int .i64 k ∧ wr.heap[w.heap.size]? = some (.cells #[.int .i64 0, .int .i64 0, .int .i64 0, .int .i64 0, .int .i64 0, .int .i64 0, .int .u64 0, .int .i64 0, .int .i64 0, .int .i64 0, .int .i64 0, .int .i64 0, .int .i64 0, .slice none 0 0, .slice none 0 0, .slice none 0 0, .slice none 0 0] 49 (0, 0)) ∧ wr.heap[y1.heap.size]? = some (.cells #[.int .u64 90, .int .u64 79, .int .u64 69, .int .u64 49] 24 (0, 0)) ∧ Hid (MAt g N ba bn bc l (mgK (l, 0) k) wr) ∧ Hid (Below w.heap.size w wr) ∧ y2.heap.size ≤ wr.heap.size) (fun i _ => 4 - (intOf i).toNat)
  case atStart => exact ⟨0, by omega, rfl, hr2_0, hr2_1, HP2, HU2, Nat.le_refl _⟩
  case round =>
    clear hr2_0 hr2_1 HP2 HU2
    obtain ⟨k, hk, rfl, hr20_0, hr20_1, HP20, HU20, hz20⟩ := hrel
    obtain ⟨y20, rfl⟩ : ∃ y : World, y = wr := ⟨_, rfl⟩
    by_cases hlt : k < 4
    · have hlt' : (k : Int) < 4 := by omega
      obtain ⟨mk, hmk⟩ : ∃ m, m = mgb k := ⟨_, rfl⟩
      have HMK := Lib.hid hmk
      have ckf : ∀ y : World, y.heap[y1.heap.size]? = some (.cells #[.int .u64 90, .int .u64 79, .int .u64 69, .int .u64 49] 24 (0, 0)) → y.cell? ⟨y1.heap.size, k, none⟩ = some (.int .u64 (mk : Int)) := fun y hy => by
        rw [cell_of_row _ _ k _ _ _ hy, hmk]
        rcases (show k = 0 ∨ k = 1 ∨ k = 2 ∨ k = 3 by omega) with rfl | rfl | rfl | rfl <;> rfl
      have HCK := Lib.hid ckf
      clear hmk ckf
      go_wp2_with fail
      refine (mnum_lit g N ba bn bc l (mgK (l, 0) k) 1 1 rfl (by omega) _ HP20.out).mono ?_
      rintro e y21 ⟨⟨x, rfl, lx, Xx⟩, hm, ha⟩
      have hr21_0 := (ha.block _ (lt_heap hr20_0) (lt_heap hr20_0) (by omega)).trans hr20_0
      have hr21_1 := (ha.block _ (lt_heap hr20_1) (lt_heap hr20_1) (by omega)).trans hr20_1
      have hz21 := ha.size
      have HU21 := Lib.hid (HU20.out.trans (ha.below (by omega) (by omega) (by omega)))
      obtain ⟨t21, ht21⟩ : ∃ t : St, t = (numS (mgK (l, 0) k) 1).2 := ⟨_, rfl⟩
      rw [← ht21] at hm
      have HT21 := Lib.hid ht21
      have HP21 := Lib.hid hm
      clear hm ha ht21 HP20
      clear hr20_0 hr20_1 HU20
      have lx : x < 256 := lx
      obtain ⟨he, hf, -, -⟩ := HP21.out.err
      have ck := HCK.out _ hr21_1
      obtain ⟨tl, te⟩ := t21
      have he : y21.cell? ⟨g, 2, none⟩ = some (.int .i64 te) := he
      by_cases h0 : te = 0
      · subst h0
        by_cases hx : x = mk
        · have hxz : ((x : Int) != (mk : Int)) = false := by subst hx; simp
          have HQ := Lib.hid (show MAt g N ba bn bc l (mgK (l, 0) (k + 1)) y21 by
            show MAt g N ba bn bc l (mg (mgb k) (mgK (l, 0) k)) y21
            rw [mg_is (by rw [← Xx.out, ← HMK.out]; exact hx), ← HT21.out]; exact HP21.out)
          subst hx
          go_wp2_with fail
          go_roundw
          case rel => exact ⟨k + 1, by omega, by go_num, hr21_0, hr21_1, HQ, HU21, by omega⟩
          case measure => simp [intOf]; omega
        · have hxz : ((x : Int) != (mk : Int)) = true := by simp; omega
          have HS := Lib.hid (show mgK (l, 0) (k + 1) = (tl, 20) by
            show mg (mgb k) (mgK (l, 0) k) = _
            rw [mg_not (by rw [← Xx.out, ← HMK.out]; exact hx), ← HT21.out]; rfl)
          go_wp2_with fail
          have hsE := HP21.out.setErr 20
          have hUE : Below w.heap.size w (y21.setCell ⟨g, 2, none⟩ (.int .i64 20)) := HU21.out.setCell (by show w.heap.size ≤ g; omega) _
          have hE0 := (Below.heap_setCell y21 ⟨g, 2, none⟩ (.int .i64 20) _ (show w.heap.size ≠ g by omega)).trans hr21_0
          have hE1 := (Below.heap_setCell y21 ⟨g, 2, none⟩ (.int .i64 20) _ (show y1.heap.size ≠ g by omega)).trans hr21_1
          go_roundw
          case rel => exact ⟨k + 1, by omega, by go_num, hE0, hE1, Lib.hid (by rw [HS.out]; exact hsE), Lib.hid hUE, by simp; omega⟩
          case measure => simp [intOf]; omega
      · have d1 : (te == 0) = false := by simpa using h0
        have d2 := decide_eq_false h0
        have HQ := Lib.hid (show MAt g N ba bn bc l (mgK (l, 0) (k + 1)) y21 by
          show MAt g N ba bn bc l (mg (mgb k) (mgK (l, 0) k)) y21
          have e : mg (mgb k) (mgK (l, 0) k) = (numS (mgK (l, 0) k) 1).2 := by
            unfold mg
            split
            · rfl
            · unfold failS; rw [← HT21.out, if_neg h0]
          rw [e, ← HT21.out]; exact HP21.out)
        go_wp2_with fail
        go_roundw
        case rel => exact ⟨k + 1, by omega, by go_num, hr21_0, hr21_1, HQ, HU21, by omega⟩
        case measure => simp [intOf]; omega
    · have hkk : k = 4 := by omega
      subst hkk
      clear hr20_1 hlt hk
      obtain ⟨t20, ht20⟩ : ∃ t : St, t = mgK (l, 0) 4 := ⟨_, rfl⟩
      rw [← ht20] at HP20
      have HT20 := Lib.hid ht20
      clear ht20
      go_upto_region 12 with fail
      have hb21 := Ve.below_n1 y20 (.cells #[.int .i64 0, .int .i64 0, .int .i64 0, .int .i64 0, .int .i64 0, .int .i64 0, .int .u64 0, .int .i64 0, .int .i64 0, .int .i64 0, .int .i64 0, .int .i64 0, .int .i64 0, .slice none 0 0, .slice none 0 0, .slice none 0 0, .slice none 0 0] 49)
      have hN := heap_alloc_last y20 (.cells #[.int .i64 0, .int .i64 0, .int .i64 0, .int .i64 0, .int .i64 0, .int .i64 0, .int .u64 0, .int .i64 0, .int .i64 0, .int .i64 0, .int .i64 0, .int .i64 0, .int .i64 0, .slice none 0 0, .slice none 0 0, .slice none 0 0, .slice none 0 0] 49)
      obtain ⟨y21, hy21⟩ : ∃ y, y20.alloc (.cells #[.int .i64 0, .int .i64 0, .int .i64 0, .int .i64 0, .int .i64 0, .int .i64 0, .int .u64 0, .int .i64 0, .int .i64 0, .int .i64 0, .int .i64 0, .int .i64 0, .int .i64 0, .slice none 0 0, .slice none 0 0, .slice none 0 0, .slice none 0 0] 49) = y := ⟨_, rfl⟩
      have hs21 : y21.heap.size = y20.heap.size + 1 := by rw [← hy21]; simp
      rw [hy21] at hb21 hN ⊢
      clear hy21
      have hl21_0 := lt_heap hr20_0
      have hr21_0 := (hb21.block _ (lt_heap hr20_0)).trans hr20_0
      have HU21 := Lib.hid (HU20.out.trans (hb21.mono HU20.out.size))
      clear hr20_0 HU20
      have hr21_1 := hN
      clear hN
      replace hs21 : y20.heap.size < y21.heap.size := by omega
      have HP21 := Lib.hid (HP20.out.on hb21)
      clear HP20
      have hz21 := hb21.size
      go_wp2_with fail
      refine (mnum_lit g N ba bn bc l t20 2 2 rfl (by omega) _ HP21.out).mono ?_
      rintro e y22 ⟨⟨a1, rfl, la1, Xa1⟩, hm, ha⟩
      have hr22_0 := (ha.block _ (lt_heap hr21_0) (lt_heap hr21_0) (by omega)).trans hr21_0
      have hr22_1 := (ha.block _ (lt_heap hr21_1) (lt_heap hr21_1) (by omega)).trans hr21_1
      have hz22 := ha.size
      have HU22 := Lib.hid (HU21.out.trans (ha.below (by omega) (by omega) (by omega)))
      obtain ⟨t22, ht22⟩ : ∃ t : St, t = (numS t20 2).2 := ⟨_, rfl⟩
      rw [← ht22] at hm
      have HT22 := Lib.hid ht22
      have HP22 := Lib.hid hm
      clear hm ha ht22 HP21
      clear hr21_0 hr21_1 HU21
      have la1 : a1 < 65536 := la1
      have c1_0 := cell_of_row _ _ 0 _ _ _ hr22_1
      simp at c1_0
      have fz : ∀ j, y22.frozen? ⟨y20.heap.size, j, none⟩ = false := fun j => by simp [World.frozen?, hr22_1]
      go_upto_region 13 with fail
      clear fz
      clear c1_0
      have hN : (y22.setCell ⟨y20.heap.size, 0, none⟩ (.int .i64 (a1 : Int))).heap[y20.heap.size]? = some (.cells #[.int .i64 (a1 : Int), .int .i64 0, .int .i64 0, .int .i64 0, .int .i64 0, .int .i64 0, .int .u64 0, .int .i64 0, .int .i64 0, .int .i64 0, .int .i64 0, .int .i64 0, .int .i64 0, .slice none 0 0, .slice none 0 0, .slice none 0 0, .slice none 0 0] 49 (0, 0)) := heap_setCell_same _ _ 0 _ _ _ hr22_1
      have hO : ∀ kk, kk ≠ y20.heap.size → (y22.setCell ⟨y20.heap.size, 0, none⟩ (.int .i64 (a1 : Int))).heap[kk]? = y22.heap[kk]? := fun kk hk => Below.heap_setCell _ _ _ _ hk
      have HUx : Below w.heap.size w (y22.setCell ⟨y20.heap.size, 0, none⟩ (.int .i64 (a1 : Int))) := HU22.out.setCell (by show w.heap.size ≤ y20.heap.size; omega) _
      have hPx := HP22.out.setFar (b := y20.heap.size) (by omega) 0 (.int .i64 (a1 : Int))
      have hzx : y22.heap.size ≤ (y22.setCell ⟨y20.heap.size, 0, none⟩ (.int .i64 (a1 : Int))).heap.size := by simp
      obtain ⟨y23, hy23⟩ : ∃ y, y22.setCell ⟨y20.heap.size, 0, none⟩ (.int .i64 (a1 : Int)) = y := ⟨_, rfl⟩
      rw [hy23] at hN hO HUx hPx hzx ⊢
      clear hy23
      have HU23 := Lib.hid HUx
      have HP23 := Lib.hid hPx
      have hz23 := hzx
      have hr23_0 := (hO _ (by omega)).trans hr22_0
      have hr23_1 := hN
      clear hN hO HUx hPx hzx HP22
      clear hr22_0 hr22_1 HU22
      go_wp2_with fail
      refine (mnum_lit g N ba bn bc l t22 2 2 rfl (by omega) _ HP23.out).mono ?_
      rintro e y24 ⟨⟨a2, rfl, la2, Xa2⟩, hm, ha⟩
      have hr24_0 := (ha.block _ (lt_heap hr23_0) (lt_heap hr23_0) (by omega)).trans hr23_0
      have hr24_1 := (ha.block _ (lt_heap hr23_1) (lt_heap hr23_1) (by omega)).trans hr23_1
      have hz24 := ha.size
      have HU24 := Lib.hid (HU23.out.trans (ha.below (by omega) (by omega) (by omega)))
      obtain ⟨t24, ht24⟩ : ∃ t : St, t = (numS t22 2).2 := ⟨_, rfl⟩
      rw [← ht24] at hm
      have HT24 := Lib.hid ht24
      have HP24 := Lib.hid hm
      clear hm ha ht24 HP23
      clear hr23_0 hr23_1 HU23
      have la2 : a2 < 65536 := la2
      have c1_1 := cell_of_row _ _ 1 _ _ _ hr24_1
      simp at c1_1
      have fz : ∀ j, y24.frozen? ⟨y20.heap.size, j, none⟩ = false := fun j => by simp [World.frozen?, hr24_1]
      go_upto_region 14 with fail
      clear fz
      clear c1_1
      have hN : (y24.setCell ⟨y20.heap.size, 1, none⟩ (.int .i64 (a2 : Int))).heap[y20.heap.size]? = some (.cells #[.int .i64 (a1 : Int), .int .i64 (a2 : Int), .int .i64 0, .int .i64 0, .int .i64 0, .int .i64 0, .int .u64 0, .int .i64 0, .int .i64 0, .int .i64 0, .int .i64 0, .int .i64 0, .int .i64 0, .slice none 0 0, .slice none 0 0, .slice none 0 0, .slice none 0 0] 49 (0, 0)) := heap_setCell_same _ _ 1 _ _ _ hr24_1
      have hO : ∀ kk, kk ≠ y20.heap.size → (y24.setCell ⟨y20.heap.size, 1, none⟩ (.int .i64 (a2 : Int))).heap[kk]? = y24.heap[kk]? := fun kk hk => Below.heap_setCell _ _ _ _ hk
      have HUx : Below w.heap.size w (y24.setCell ⟨y20.heap.size, 1, none⟩ (.int .i64 (a2 : Int))) := HU24.out.setCell (by show w.heap.size ≤ y20.heap.size; omega) _
      have hPx := HP24.out.setFar (b := y20.heap.size) (by omega) 1 (.int .i64 (a2 : Int))
      have hzx : y24.heap.size ≤ (y24.setCell ⟨y20.heap.size, 1, none⟩ (.int .i64 (a2 : Int))).heap.size := by simp
      obtain ⟨y25, hy25⟩ : ∃ y, y24.setCell ⟨y20.heap.size, 1, none⟩ (.int .i64 (a2 : Int)) = y := ⟨_, rfl⟩
      rw [hy25] at hN hO HUx hPx hzx ⊢
      clear hy25
      have HU25 := Lib.hid HUx
      have HP25 := Lib.hid hPx
      have hz25 := hzx
      have hr25_0 := (hO _ (by omega)).trans hr24_0
      have hr25_1 := hN
      clear hN hO HUx hPx hzx HP24
      clear hr24_0 hr24_1 HU24
      go_wp2_with fail
      refine (mnum_lit g N ba bn bc l t24 2 2 rfl (by omega) _ HP25.out).mono ?_
      rintro e y26 ⟨⟨a3, rfl, la3, Xa3⟩, hm, ha⟩
      have hr26_0 := (ha.block _ (lt_heap hr25_0) (lt_heap hr25_0) (by omega)).trans hr25_0
      have hr26_1 := (ha.block _ (lt_heap hr25_1) (lt_heap hr25_1) (by omega)).trans hr25_1
      have hz26 := ha.size
      have HU26 := Lib.hid (HU25.out.trans (ha.below (by omega) (by omega) (by omega)))
      obtain ⟨t26, ht26⟩ : ∃ t : St, t = (numS t24 2).2 := ⟨_, rfl⟩
      rw [← ht26] at hm
      have HT26 := Lib.hid ht26
      have HP26 := Lib.hid hm
      clear hm ha ht26 HP25
      clear hr25_0 hr25_1 HU25
      have la3 : a3 < 65536 := la3
      have c1_2 := cell_of_row _ _ 2 _ _ _ hr26_1
      simp at c1_2
      have fz : ∀ j, y26.frozen? ⟨y20.heap.size, j, none⟩ = false := fun j => by simp [World.frozen?, hr26_1]
      go_upto_region 15 with fail
      clear fz
      clear c1_2
      have hN : (y26.setCell ⟨y20.heap.size, 2, none⟩ (.int .i64 (a3 : Int))).heap[y20.heap.size]? = some (.cells #[.int .i64 (a1 : Int), .int .i64 (a2 : Int), .int .i64 (a3 : Int), .int .i64 0, .int .i64 0, .int .i64 0, .int .u64 0, .int .i64 0, .int .i64 0, .int .i64 0, .int .i64 0, .int .i64 0, .int .i64 0, .slice none 0 0, .slice none 0 0, .slice none 0 0, .slice none 0 0] 49 (0, 0)) := heap_setCell_same _ _ 2 _ _ _ hr26_1
      have hO : ∀ kk, kk ≠ y20.heap.size → (y26.setCell ⟨y20.heap.size, 2, none⟩ (.int .i64 (a3 : Int))).heap[kk]? = y26.heap[kk]? := fun kk hk => Below.heap_setCell _ _ _ _ hk
      have HUx : Below w.heap.size w (y26.setCell ⟨y20.heap.size, 2, none⟩ (.int .i64 (a3 : Int))) := HU26.out.setCell (by show w.heap.size ≤ y20.heap.size; omega) _
      have hPx := HP26.out.setFar (b := y20.heap.size) (by omega) 2 (.int .i64 (a3 : Int))
      have hzx : y26.heap.size ≤ (y26.setCell ⟨y20.heap.size, 2, none⟩ (.int .i64 (a3 : Int))).heap.size := by simp
      obtain ⟨y27, hy27⟩ : ∃ y, y26.setCell ⟨y20.heap.size, 2, none⟩ (.int .i64 (a3 : Int)) = y := ⟨_, rfl⟩
      rw [hy27] at hN hO HUx hPx hzx ⊢
      clear hy27
      have HU27 := Lib.hid HUx
      have HP27 := Lib.hid hPx
      have hz27 := hzx
      have hr27_0 := (hO _ (by omega)).trans hr26_0
      have hr27_1 := hN
      clear hN hO HUx hPx hzx HP26
      clear hr26_0 hr26_1 HU26
      go_wp2_with fail
      refine (mnum_lit g N ba bn bc l t26 2 2 rfl (by omega) _ HP27.out).mono ?_
      rintro e y28 ⟨⟨a4, rfl, la4, Xa4⟩, hm, ha⟩
      have hr28_0 := (ha.block _ (lt_heap hr27_0) (lt_heap hr27_0) (by omega)).trans hr27_0
      have hr28_1 := (ha.block _ (lt_heap hr27_1) (lt_heap hr27_1) (by omega)).trans hr27_1
      have hz28 := ha.size
      have HU28 := Lib.hid (HU27.out.trans (ha.below (by omega) (by omega) (by omega)))
      obtain ⟨t28, ht28⟩ : ∃ t : St, t = (numS t26 2).2 := ⟨_, rfl⟩
      rw [← ht28] at hm
      have HT28 := Lib.hid ht28
      have HP28 := Lib.hid hm
      clear hm ha ht28 HP27
      clear hr27_0 hr27_1 HU27
      have la4 : a4 < 65536 := la4
      have c1_3 := cell_of_row _ _ 3 _ _ _ hr28_1
      simp at c1_3
      have fz : ∀ j, y28.frozen? ⟨y20.heap.size, j, none⟩ = false := fun j => by simp [World.frozen?, hr28_1]
      go_upto_region 16 with fail
      clear fz
      clear c1_3
      have hN : (y28.setCell ⟨y20.heap.size, 3, none⟩ (.int .i64 (a4 : Int))).heap[y20.heap.size]? = some (.cells #[.int .i64 (a1 : Int), .int .i64 (a2 : Int), .int .i64 (a3 : Int), .int .i64 (a4 : Int), .int .i64 0, .int .i64 0, .int .u64 0, .int .i64 0, .int .i64 0, .int .i64 0, .int .i64 0, .int .i64 0, .int .i64 0, .slice none 0 0, .slice none 0 0, .slice none 0 0, .slice none 0 0] 49 (0, 0)) := heap_setCell_same _ _ 3 _ _ _ hr28_1
      have hO : ∀ kk, kk ≠ y20.heap.size → (y28.setCell ⟨y20.heap.size, 3, none⟩ (.int .i64 (a4 : Int))).heap[kk]? = y28.heap[kk]? := fun kk hk => Below.heap_setCell _ _ _ _ hk
      have HUx : Below w.heap.size w (y28.setCell ⟨y20.heap.size, 3, none⟩ (.int .i64 (a4 : Int))) := HU28.out.setCell (by show w.heap.size ≤ y20.heap.size; omega) _
      have hPx := HP28.out.setFar (b := y20.heap.size) (by omega) 3 (.int .i64 (a4 : Int))
      have hzx : y28.heap.size ≤ (y28.setCell ⟨y20.heap.size, 3, none⟩ (.int .i64 (a4 : Int))).heap.size := by simp
      obtain ⟨y29, hy29⟩ : ∃ y, y28.setCell ⟨y20.heap.size, 3, none⟩ (.int .i64 (a4 : Int)) = y := ⟨_, rfl⟩
      rw [hy29] at hN hO HUx hPx hzx ⊢
      clear hy29
      have HU29 := Lib.hid HUx
      have HP29 := Lib.hid hPx
      have hz29 := hzx
      have hr29_0 := (hO _ (by omega)).trans hr28_0
      have hr29_1 := hN
      clear hN hO HUx hPx hzx HP28
      clear hr28_0 hr28_1 HU28
      go_wp2_with fail
      refine (mnum_lit g N ba bn bc l t28 2 2 rfl (by omega) _ HP29.out).mono ?_
      rintro e y30 ⟨⟨a5, rfl, la5, Xa5⟩, hm, ha⟩
      have hr30_0 := (ha.block _ (lt_heap hr29_0) (lt_heap hr29_0) (by omega)).trans hr29_0
      have hr30_1 := (ha.block _ (lt_heap hr29_1) (lt_heap hr29_1) (by omega)).trans hr29_1
      have hz30 := ha.size
      have HU30 := Lib.hid (HU29.out.trans (ha.below (by omega) (by omega) (by omega)))
      obtain ⟨t30, ht30⟩ : ∃ t : St, t = (numS t28 2).2 := ⟨_, rfl⟩
      rw [← ht30] at hm
      have HT30 := Lib.hid ht30
      have HP30 := Lib.hid hm
      clear hm ha ht30 HP29
      clear hr29_0 hr29_1 HU29
      have la5 : a5 < 65536 := la5
      have c1_4 := cell_of_row _ _ 4 _ _ _ hr30_1
      simp at c1_4
      have fz : ∀ j, y30.frozen? ⟨y20.heap.size, j, none⟩ = false := fun j => by simp [World.frozen?, hr30_1]
      go_upto_region 17 with fail
      clear fz
      clear c1_4
      have hN : (y30.setCell ⟨y20.heap.size, 4, none⟩ (.int .i64 (a5 : Int))).heap[y20.heap.size]? = some (.cells #[.int .i64 (a1 : Int), .int .i64 (a2 : Int), .int .i64 (a3 : Int), .int .i64 (a4 : Int), .int .i64 (a5 : Int), .int .i64 0, .int .u64 0, .int .i64 0, .int .i64 0, .int .i64 0, .int .i64 0, .int .i64 0, .int .i64 0, .slice none 0 0, .slice none 0 0, .slice none 0 0, .slice none 0 0] 49 (0, 0)) := heap_setCell_same _ _ 4 _ _ _ hr30_1
      have hO : ∀ kk, kk ≠ y20.heap.size → (y30.setCell ⟨y20.heap.size, 4, none⟩ (.int .i64 (a5 : Int))).heap[kk]? = y30.heap[kk]? := fun kk hk => Below.heap_setCell _ _ _ _ hk
      have HUx : Below w.heap.size w (y30.setCell ⟨y20.heap.size, 4, none⟩ (.int .i64 (a5 : Int))) := HU30.out.setCell (by show w.heap.size ≤ y20.heap.size; omega) _
      have hPx := HP30.out.setFar (b := y20.heap.size) (by omega) 4 (.int .i64 (a5 : Int))
      have hzx : y30.heap.size ≤ (y30.setCell ⟨y20.heap.size, 4, none⟩ (.int .i64 (a5 : Int))).heap.size := by simp
      obtain ⟨y31, hy31⟩ : ∃ y, y30.setCell ⟨y20.heap.size, 4, none⟩ (.int .i64 (a5 : Int)) = y := ⟨_, rfl⟩
      rw [hy31] at hN hO HUx hPx hzx ⊢
      clear hy31
      have HU31 := Lib.hid HUx
      have HP31 := Lib.hid hPx
      have hz31 := hzx
      have hr31_0 := (hO _ (by omega)).trans hr30_0
      have hr31_1 := hN
      clear hN hO HUx hPx hzx HP30
      clear hr30_0 hr30_1 HU30
      go_wp2_with fail
      refine (mfix_any g N ba bn bc l t30 _ HP31.out).mono ?_
      rintro e y32 ⟨rfl, hm, ha⟩
      have hr32_0 := (ha.block _ (lt_heap hr31_0) (lt_heap hr31_0) (by omega)).trans hr31_0
      have hr32_1 := (ha.block _ (lt_heap hr31_1) (lt_heap hr31_1) (by omega)).trans hr31_1
      have hz32 := ha.size
      have HU32 := Lib.hid (HU31.out.trans (ha.below (by omega) (by omega) (by omega)))
      obtain ⟨t32, ht32⟩ : ∃ t : St, t = (fixS t30).2 := ⟨_, rfl⟩
      rw [← ht32] at hm
      have HT32 := Lib.hid ht32
      have HP32 := Lib.hid hm
      clear hm ha ht32 HP31
      clear hr31_0 hr31_1 HU31
      obtain ⟨a6, ha6⟩ : ∃ v, v = (fixS t30).1 := ⟨_, rfl⟩
      rw [← ha6]
      have Xa6 := Lib.hid ha6
      clear ha6
      have c1_5 := cell_of_row _ _ 5 _ _ _ hr32_1
      simp at c1_5
      have fz : ∀ j, y32.frozen? ⟨y20.heap.size, j, none⟩ = false := fun j => by simp [World.frozen?, hr32_1]
      go_upto_region 18 with fail
      clear fz
      clear c1_5
      have hN : (y32.setCell ⟨y20.heap.size, 5, none⟩ (.int .i64 a6)).heap[y20.heap.size]? = some (.cells #[.int .i64 (a1 : Int), .int .i64 (a2 : Int), .int .i64 (a3 : Int), .int .i64 (a4 : Int), .int .i64 (a5 : Int), .int .i64 a6, .int .u64 0, .int .i64 0, .int .i64 0, .int .i64 0, .int .i64 0, .int .i64 0, .int .i64 0, .slice none 0 0, .slice none 0 0, .slice none 0 0, .slice none 0 0] 49 (0, 0)) := heap_setCell_same _ _ 5 _ _ _ hr32_1
      have hO : ∀ kk, kk ≠ y20.heap.size → (y32.setCell ⟨y20.heap.size, 5, none⟩ (.int .i64 a6)).heap[kk]? = y32.heap[kk]? := fun kk hk => Below.heap_setCell _ _ _ _ hk
      have HUx : Below w.heap.size w (y32.setCell ⟨y20.heap.size, 5, none⟩ (.int .i64 a6)) := HU32.out.setCell (by show w.heap.size ≤ y20.heap.size; omega) _
      have hPx := HP32.out.setFar (b := y20.heap.size) (by omega) 5 (.int .i64 a6)
      have hzx : y32.heap.size ≤ (y32.setCell ⟨y20.heap.size, 5, none⟩ (.int .i64 a6)).heap.size := by simp
      obtain ⟨y33, hy33⟩ : ∃ y, y32.setCell ⟨y20.heap.size, 5, none⟩ (.int .i64 a6) = y := ⟨_, rfl⟩
      rw [hy33] at hN hO HUx hPx hzx ⊢
      clear hy33
      have HU33 := Lib.hid HUx
      have HP33 := Lib.hid hPx
      have hz33 := hzx
      have hr33_0 := (hO _ (by omega)).trans hr32_0
      have hr33_1 := hN
      clear hN hO HUx hPx hzx HP32
      clear hr32_0 hr32_1 HU32
      go_wp2_with fail
      refine (mnum_lit g N ba bn bc l t32 8 8 rfl (by omega) _ HP33.out).mono ?_
      rintro e y34 ⟨⟨sd, rfl, lsd, Xsd⟩, hm, ha⟩
      have hr34_0 := (ha.block _ (lt_heap hr33_0) (lt_heap hr33_0) (by omega)).trans hr33_0
      have hr34_1 := (ha.block _ (lt_heap hr33_1) (lt_heap hr33_1) (by omega)).trans hr33_1
      have hz34 := ha.size
      have HU34 := Lib.hid (HU33.out.trans (ha.below (by omega) (by omega) (by omega)))
      obtain ⟨t34, ht34⟩ : ∃ t : St, t = (numS t32 8).2 := ⟨_, rfl⟩
      rw [← ht34] at hm
      have HT34 := Lib.hid ht34
      have HP34 := Lib.hid hm
      clear hm ha ht34 HP33
      clear hr33_0 hr33_1 HU33
      have c1_6 := cell_of_row _ _ 6 _ _ _ hr34_1
      simp at c1_6
      have fz : ∀ j, y34.frozen? ⟨y20.heap.size, j, none⟩ = false := fun j => by simp [World.frozen?, hr34_1]
      go_upto_region 19 with fail
      clear fz
      clear c1_6
      have hN : (y34.setCell ⟨y20.heap.size, 6, none⟩ (.int .u64 (sd : Int))).heap[y20.heap.size]? = some (.cells #[.int .i64 (a1 : Int), .int .i64 (a2 : Int), .int .i64 (a3 : Int), .int .i64 (a4 : Int), .int .i64 (a5 : Int), .int .i64 a6, .int .u64 (sd : Int), .int .i64 0, .int .i64 0, .int .i64 0, .int .i64 0, .int .i64 0, .int .i64 0, .slice none 0 0, .slice none 0 0, .slice none 0 0, .slice none 0 0] 49 (0, 0)) := heap_setCell_same _ _ 6 _ _ _ hr34_1
      have hO : ∀ kk, kk ≠ y20.heap.size → (y34.setCell ⟨y20.heap.size, 6, none⟩ (.int .u64 (sd : Int))).heap[kk]? = y34.heap[kk]? := fun kk hk => Below.heap_setCell _ _ _ _ hk
      have HUx : Below w.heap.size w (y34.setCell ⟨y20.heap.size, 6, none⟩ (.int .u64 (sd : Int))) := HU34.out.setCell (by show w.heap.size ≤ y20.heap.size; omega) _
      have hPx := HP34.out.setFar (b := y20.heap.size) (by omega) 6 (.int .u64 (sd : Int))
      have hzx : y34.heap.size ≤ (y34.setCell ⟨y20.heap.size, 6, none⟩ (.int .u64 (sd : Int))).heap.size := by simp
      obtain ⟨y35, hy35⟩ : ∃ y, y34.setCell ⟨y20.heap.size, 6, none⟩ (.int .u64 (sd : Int)) = y := ⟨_, rfl⟩
      rw [hy35] at hN hO HUx hPx hzx ⊢
      clear hy35
      have HU35 := Lib.hid HUx
      have HP35 := Lib.hid hPx
      have hz35 := hzx
      have hr35_0 := (hO _ (by omega)).trans hr34_0
      have hr35_1 := hN
      clear hN hO HUx hPx hzx HP34
      clear hr34_0 hr34_1 HU34
      go_wp2_with fail
      refine (mvec_any g N ba bn bc l t34 _ HP35.out).mono ?_
      rintro e y36 ⟨rfl, hm, ha⟩
      have hr36_0 := (ha.block _ (lt_heap hr35_0) (lt_heap hr35_0) (by omega)).trans hr35_0
      have hr36_1 := (ha.block _ (lt_heap hr35_1) (lt_heap hr35_1) (by omega)).trans hr35_1
      have hz36 := ha.size
      have HU36 := Lib.hid (HU35.out.trans (ha.below (by omega) (by omega) (by omega)))
      obtain ⟨t36, ht36⟩ : ∃ t : St, t = (threeS t34).2 := ⟨_, rfl⟩
      rw [← ht36] at hm
      have HT36 := Lib.hid ht36
      have HP36 := Lib.hid hm
      clear hm ha ht36 HP35
      clear hr35_0 hr35_1 HU35
      obtain ⟨r1, hr1⟩ : ∃ v, v = (threeS t34).1 0 := ⟨_, rfl⟩
      rw [← hr1]
      have Xr1 := Lib.hid hr1
      clear hr1
      obtain ⟨r2, hr2⟩ : ∃ v, v = (threeS t34).1 1 := ⟨_, rfl⟩
      rw [← hr2]
      have Xr2 := Lib.hid hr2
      clear hr2
      obtain ⟨r3, hr3⟩ : ∃ v, v = (threeS t34).1 2 := ⟨_, rfl⟩
      rw [← hr3]
      have Xr3 := Lib.hid hr3
      clear hr3
      have c1_7 := cell_of_row _ _ 7 _ _ _ hr36_1
      have c1_8 := cell_of_row _ _ 8 _ _ _ hr36_1
      have c1_9 := cell_of_row _ _ 9 _ _ _ hr36_1
      simp at c1_7 c1_8 c1_9
      have fz : ∀ j, y36.frozen? ⟨y20.heap.size, j, none⟩ = false := fun j => by simp [World.frozen?, hr36_1]
      go_upto_region 20 with fail
      clear fz
      clear c1_7 c1_8 c1_9
      have hN : (((y36.setCell ⟨y20.heap.size, 7, none⟩ (.int .i64 r1)).setCell ⟨y20.heap.size, 8, none⟩ (.int .i64 r2)).setCell ⟨y20.heap.size, 9, none⟩ (.int .i64 r3)).heap[y20.heap.size]? = some (.cells #[.int .i64 (a1 : Int), .int .i64 (a2 : Int), .int .i64 (a3 : Int), .int .i64 (a4 : Int), .int .i64 (a5 : Int), .int .i64 a6, .int .u64 (sd : Int), .int .i64 r1, .int .i64 r2, .int .i64 r3, .int .i64 0, .int .i64 0, .int .i64 0, .slice none 0 0, .slice none 0 0, .slice none 0 0, .slice none 0 0] 49 (0, 0)) := part3 hr36_1 _ _ _ rfl
      have HUx : Below w.heap.size w (((y36.setCell ⟨y20.heap.size, 7, none⟩ (.int .i64 r1)).setCell ⟨y20.heap.size, 8, none⟩ (.int .i64 r2)).setCell ⟨y20.heap.size, 9, none⟩ (.int .i64 r3)) := below_put3o (k := y20.heap.size) HU36.out 7 (by omega) (.int .i64 r1) (.int .i64 r2) (.int .i64 r3)
      have hPx := ((HP36.out.setFar (b := y20.heap.size) (by omega) 7 (.int .i64 r1)).setFar (b := y20.heap.size) (by omega) 8 (.int .i64 r2)).setFar (b := y20.heap.size) (by omega) 9 (.int .i64 r3)
      have hzx : y36.heap.size ≤ (((y36.setCell ⟨y20.heap.size, 7, none⟩ (.int .i64 r1)).setCell ⟨y20.heap.size, 8, none⟩ (.int .i64 r2)).setCell ⟨y20.heap.size, 9, none⟩ (.int .i64 r3)).heap.size := by simp
      have hO : ∀ kk, kk ≠ y20.heap.size → (((y36.setCell ⟨y20.heap.size, 7, none⟩ (.int .i64 r1)).setCell ⟨y20.heap.size, 8, none⟩ (.int .i64 r2)).setCell ⟨y20.heap.size, 9, none⟩ (.int .i64 r3)).heap[kk]? = y36.heap[kk]? := fun kk hk => put3_other _ _ _ _ _ hk
      obtain ⟨y37, hy37⟩ : ∃ y, ((y36.setCell ⟨y20.heap.size, 7, none⟩ (.int .i64 r1)).setCell ⟨y20.heap.size, 8, none⟩ (.int .i64 r2)).setCell ⟨y20.heap.size, 9, none⟩ (.int .i64 r3) = y := ⟨_, rfl⟩
      rw [hy37] at hN hO HUx hPx hzx ⊢
      clear hy37
      have HU37 := Lib.hid HUx
      have HP37 := Lib.hid hPx
      have hz37 := hzx
      have hr37_0 := (hO _ (by omega)).trans hr36_0
      have hr37_1 := hN
      clear hN hO HUx hPx hzx HP36
      clear hr36_0 hr36_1 HU36
      go_wp2_with fail
      refine (mnum_lit g N ba bn bc l t36 2 2 rfl (by omega) _ HP37.out).mono ?_
      rintro e y38 ⟨⟨e1, rfl, le1, Xe1⟩, hm, ha⟩
      have hr38_0 := (ha.block _ (lt_heap hr37_0) (lt_heap hr37_0) (by omega)).trans hr37_0
      have hr38_1 := (ha.block _ (lt_heap hr37_1) (lt_heap hr37_1) (by omega)).trans hr37_1
      have hz38 := ha.size
      have HU38 := Lib.hid (HU37.out.trans (ha.below (by omega) (by omega) (by omega)))
      obtain ⟨t38, ht38⟩ : ∃ t : St, t = (numS t36 2).2 := ⟨_, rfl⟩
      rw [← ht38] at hm
      have HT38 := Lib.hid ht38
      have HP38 := Lib.hid hm
      clear hm ha ht38 HP37
      clear hr37_0 hr37_1 HU37
      have le1 : e1 < 65536 := le1
      have c1_10 := cell_of_row _ _ 10 _ _ _ hr38_1
      simp at c1_10
      have fz : ∀ j, y38.frozen? ⟨y20.heap.size, j, none⟩ = false := fun j => by simp [World.frozen?, hr38_1]
      go_upto_region 21 with fail
      clear fz
      clear c1_10
      have hN : (y38.setCell ⟨y20.heap.size, 10, none⟩ (.int .i64 (e1 : Int))).heap[y20.heap.size]? = some (.cells #[.int .i64 (a1 : Int), .int .i64 (a2 : Int), .int .i64 (a3 : Int), .int .i64 (a4 : Int), .int .i64 (a5 : Int), .int .i64 a6, .int .u64 (sd : Int), .int .i64 r1, .int .i64 r2, .int .i64 r3, .int .i64 (e1 : Int), .int .i64 0, .int .i64 0, .slice none 0 0, .slice none 0 0, .slice none 0 0, .slice none 0 0] 49 (0, 0)) := heap_setCell_same _ _ 10 _ _ _ hr38_1
      have hO : ∀ kk, kk ≠ y20.heap.size → (y38.setCell ⟨y20.heap.size, 10, none⟩ (.int .i64 (e1 : Int))).heap[kk]? = y38.heap[kk]? := fun kk hk => Below.heap_setCell _ _ _ _ hk
      have HUx : Below w.heap.size w (y38.setCell ⟨y20.heap.size, 10, none⟩ (.int .i64 (e1 : Int))) := HU38.out.setCell (by show w.heap.size ≤ y20.heap.size; omega) _
      have hPx := HP38.out.setFar (b := y20.heap.size) (by omega) 10 (.int .i64 (e1 : Int))
      have hzx : y38.heap.size ≤ (y38.setCell ⟨y20.heap.size, 10, none⟩ (.int .i64 (e1 : Int))).heap.size := by simp
      obtain ⟨y39, hy39⟩ : ∃ y, y38.setCell ⟨y20.heap.size, 10, none⟩ (.int .i64 (e1 : Int)) = y := ⟨_, rfl⟩
      rw [hy39] at hN hO HUx hPx hzx ⊢
      clear hy39
      have HU39 := Lib.hid HUx
      have HP39 := Lib.hid hPx
      have hz39 := hzx
      have hr39_0 := (hO _ (by omega)).trans hr38_0
      have hr39_1 := hN
      clear hN hO HUx hPx hzx HP38
      clear hr38_0 hr38_1 HU38
      go_wp2_with fail
      refine (mnum_lit g N ba bn bc l t38 2 2 rfl (by omega) _ HP39.out).mono ?_
      rintro e y40 ⟨⟨e2, rfl, le2, Xe2⟩, hm, ha⟩
      have hr40_0 := (ha.block _ (lt_heap hr39_0) (lt_heap hr39_0) (by omega)).trans hr39_0
      have hr40_1 := (ha.block _ (lt_heap hr39_1) (lt_heap hr39_1) (by omega)).trans hr39_1
      have hz40 := ha.size
      have HU40 := Lib.hid (HU39.out.trans (ha.below (by omega) (by omega) (by omega)))
      obtain ⟨t40, ht40⟩ : ∃ t : St, t = (numS t38 2).2 := ⟨_, rfl⟩
      rw [← ht40] at hm
      have HT40 := Lib.hid ht40
      have HP40 := Lib.hid hm
      clear hm ha ht40 HP39
      clear hr39_0 hr39_1 HU39
      have le2 : e2 < 65536 := le2
      have c1_11 := cell_of_row _ _ 11 _ _ _ hr40_1
      simp at c1_11
      have fz : ∀ j, y40.frozen? ⟨y20.heap.size, j, none⟩ = false := fun j => by simp [World.frozen?, hr40_1]
      go_upto_region 22 with fail
      clear fz
      clear c1_11
      have hN : (y40.setCell ⟨y20.heap.size, 11, none⟩ (.int .i64 (e2 : Int))).heap[y20.heap.size]? = some (.cells #[.int .i64 (a1 : Int), .int .i64 (a2 : Int), .int .i64 (a3 : Int), .int .i64 (a4 : Int), .int .i64 (a5 : Int), .int .i64 a6, .int .u64 (sd : Int), .int .i64 r1, .int .i64 r2, .int .i64 r3, .int .i64 (e1 : Int), .int .i64 (e2 : Int), .int .i64 0, .slice none 0 0, .slice none 0 0, .slice none 0 0, .slice none 0 0] 49 (0, 0)) := heap_setCell_same _ _ 11 _ _ _ hr40_1
      have hO : ∀ kk, kk ≠ y20.heap.size → (y40.setCell ⟨y20.heap.size, 11, none⟩ (.int .i64 (e2 : Int))).heap[kk]? = y40.heap[kk]? := fun kk hk => Below.heap_setCell _ _ _ _ hk
      have HUx : Below w.heap.size w (y40.setCell ⟨y20.heap.size, 11, none⟩ (.int .i64 (e2 : Int))) := HU40.out.setCell (by show w.heap.size ≤ y20.heap.size; omega) _
      have hPx := HP40.out.setFar (b := y20.heap.size) (by omega) 11 (.int .i64 (e2 : Int))
      have hzx : y40.heap.size ≤ (y40.setCell ⟨y20.heap.size, 11, none⟩ (.int .i64 (e2 : Int))).heap.size := by simp
      obtain ⟨y41, hy41⟩ : ∃ y, y40.setCell ⟨y20.heap.size, 11, none⟩ (.int .i64 (e2 : Int)) = y := ⟨_, rfl⟩
      rw [hy41] at hN hO HUx hPx hzx ⊢
      clear hy41
      have HU41 := Lib.hid HUx
      have HP41 := Lib.hid hPx
      have hz41 := hzx
      have hr41_0 := (hO _ (by omega)).trans hr40_0
      have hr41_1 := hN
      clear hN hO HUx hPx hzx HP40
      clear hr40_0 hr40_1 HU40
      go_wp2_with fail
      refine (mfix_any g N ba bn bc l t40 _ HP41.out).mono ?_
      rintro e y42 ⟨rfl, hm, ha⟩
      have hr42_0 := (ha.block _ (lt_heap hr41_0) (lt_heap hr41_0) (by omega)).trans hr41_0
      have hr42_1 := (ha.block _ (lt_heap hr41_1) (lt_heap hr41_1) (by omega)).trans hr41_1
      have hz42 := ha.size
      have HU42 := Lib.hid (HU41.out.trans (ha.below (by omega) (by omega) (by omega)))
      obtain ⟨t42, ht42⟩ : ∃ t : St, t = (fixS t40).2 := ⟨_, rfl⟩
      rw [← ht42] at hm
      have HT42 := Lib.hid ht42
      have HP42 := Lib.hid hm
      clear hm ha ht42 HP41
      clear hr41_0 hr41_1 HU41
      obtain ⟨e3, he3⟩ : ∃ v, v = (fixS t40).1 := ⟨_, rfl⟩
      rw [← he3]
      have Xe3 := Lib.hid he3
      clear he3
      have c1_12 := cell_of_row _ _ 12 _ _ _ hr42_1
      simp at c1_12
      have fz : ∀ j, y42.frozen? ⟨y20.heap.size, j, none⟩ = false := fun j => by simp [World.frozen?, hr42_1]
      go_upto_region 23 with fail
      clear fz
      clear c1_12
      have hN : (y42.setCell ⟨y20.heap.size, 12, none⟩ (.int .i64 e3)).heap[y20.heap.size]? = some (.cells #[.int .i64 (a1 : Int), .int .i64 (a2 : Int), .int .i64 (a3 : Int), .int .i64 (a4 : Int), .int .i64 (a5 : Int), .int .i64 a6, .int .u64 (sd : Int), .int .i64 r1, .int .i64 r2, .int .i64 r3, .int .i64 (e1 : Int), .int .i64 (e2 : Int), .int .i64 e3, .slice none 0 0, .slice none 0 0, .slice none 0 0, .slice none 0 0] 49 (0, 0)) := heap_setCell_same _ _ 12 _ _ _ hr42_1
      have hO : ∀ kk, kk ≠ y20.heap.size → (y42.setCell ⟨y20.heap.size, 12, none⟩ (.int .i64 e3)).heap[kk]? = y42.heap[kk]? := fun kk hk => Below.heap_setCell _ _ _ _ hk
      have HUx : Below w.heap.size w (y42.setCell ⟨y20.heap.size, 12, none⟩ (.int .i64 e3)) := HU42.out.setCell (by show w.heap.size ≤ y20.heap.size; omega) _
      have hPx := HP42.out.setFar (b := y20.heap.size) (by omega) 12 (.int .i64 e3)
      have hzx : y42.heap.size ≤ (y42.setCell ⟨y20.heap.size, 12, none⟩ (.int .i64 e3)).heap.size := by simp
      obtain ⟨y43, hy43⟩ : ∃ y, y42.setCell ⟨y20.heap.size, 12, none⟩ (.int .i64 e3) = y := ⟨_, rfl⟩
      rw [hy43] at hN hO HUx hPx hzx ⊢
      clear hy43
      have HU43 := Lib.hid HUx
      have HP43 := Lib.hid hPx
      have hz43 := hzx
      have hr43_0 := (hO _ (by omega)).trans hr42_0
      have hr43_1 := hN
      clear hN hO HUx hPx hzx HP42
      clear hr42_0 hr42_1 HU42
      go_wp2_with fail
      refine (mmany g N ba bn bc l t42 32 22 _ HP43.out).mono ?_
      rintro e y44 ⟨rfl, hm, ha⟩
      have hr44_0 := (ha.block _ (lt_heap hr43_0) (lt_heap hr43_0) (by omega)).trans hr43_0
      have hr44_1 := (ha.block _ (lt_heap hr43_1) (lt_heap hr43_1) (by omega)).trans hr43_1
      have hz44 := ha.size
      have HU44 := Lib.hid (HU43.out.trans (ha.below (by omega) (by omega) (by omega)))
      obtain ⟨t44, ht44⟩ : ∃ t : St, t = (manyS t42 32 22).2 := ⟨_, rfl⟩
      rw [← ht44] at hm
      have HT44 := Lib.hid ht44
      have HP44 := Lib.hid hm
      clear hm ha ht44 HP43
      clear hr43_0 hr43_1 HU43
      obtain ⟨np, hnp⟩ : ∃ v, v = (manyS t42 32 22).1 := ⟨_, rfl⟩
      rw [← hnp]
      have Xnp := Lib.hid hnp
      clear hnp
      have hle_np : np ≤ 32 := by rw [Xnp.out]; exact many_le _ 32 22
      go_upto_region 24 with fail
      go_wp2_with fail
      refine (mmany g N ba bn bc l t44 32 23 _ HP44.out).mono ?_
      rintro e y45 ⟨rfl, hm, ha⟩
      have hr45_0 := (ha.block _ (lt_heap hr44_0) (lt_heap hr44_0) (by omega)).trans hr44_0
      have hr45_1 := (ha.block _ (lt_heap hr44_1) (lt_heap hr44_1) (by omega)).trans hr44_1
      have hz45 := ha.size
      have HU45 := Lib.hid (HU44.out.trans (ha.below (by omega) (by omega) (by omega)))
      obtain ⟨t45, ht45⟩ : ∃ t : St, t = (manyS t44 32 23).2 := ⟨_, rfl⟩
      rw [← ht45] at hm
      have HT45 := Lib.hid ht45
      have HP45 := Lib.hid hm
      clear hm ha ht45 HP44
      clear hr44_0 hr44_1 HU44
      obtain ⟨nt, hnt⟩ : ∃ v, v = (manyS t44 32 23).1 := ⟨_, rfl⟩
      rw [← hnt]
      have Xnt := Lib.hid hnt
      clear hnt
      have hle_nt : nt ≤ 32 := by rw [Xnt.out]; exact many_le _ 32 23
      go_upto_region 25 with fail
      go_wp2_with fail
      refine (mmany g N ba bn bc l t45 32 24 _ HP45.out).mono ?_
      rintro e y46 ⟨rfl, hm, ha⟩
      have hr46_0 := (ha.block _ (lt_heap hr45_0) (lt_heap hr45_0) (by omega)).trans hr45_0
      have hr46_1 := (ha.block _ (lt_heap hr45_1) (lt_heap hr45_1) (by omega)).trans hr45_1
      have hz46 := ha.size
      have HU46 := Lib.hid (HU45.out.trans (ha.below (by omega) (by omega) (by omega)))
      obtain ⟨t46, ht46⟩ : ∃ t : St, t = (manyS t45 32 24).2 := ⟨_, rfl⟩
      rw [← ht46] at hm
      have HT46 := Lib.hid ht46
      have HP46 := Lib.hid hm
      clear hm ha ht46 HP45
      clear hr45_0 hr45_1 HU45
      obtain ⟨nj, hnj⟩ : ∃ v, v = (manyS t45 32 24).1 := ⟨_, rfl⟩
      rw [← hnj]
      have Xnj := Lib.hid hnj
      clear hnj
      have hle_nj : nj ≤ 32 := by rw [Xnj.out]; exact many_le _ 32 24
      go_upto_region 26 with fail
      go_wp2_with fail
      refine (mmany g N ba bn bc l t46 128 25 _ HP46.out).mono ?_
      rintro e y47 ⟨rfl, hm, ha⟩
      have hr47_0 := (ha.block _ (lt_heap hr46_0) (lt_heap hr46_0) (by omega)).trans hr46_0
      have hr47_1 := (ha.block _ (lt_heap hr46_1) (lt_heap hr46_1) (by omega)).trans hr46_1
      have hz47 := ha.size
      have HU47 := Lib.hid (HU46.out.trans (ha.below (by omega) (by omega) (by omega)))
      obtain ⟨t47, ht47⟩ : ∃ t : St, t = (manyS t46 128 25).2 := ⟨_, rfl⟩
      rw [← ht47] at hm
      have HT47 := Lib.hid ht47
      have HP47 := Lib.hid hm
      clear hm ha ht47 HP46
      clear hr46_0 hr46_1 HU46
      obtain ⟨ns, hns⟩ : ∃ v, v = (manyS t46 128 25).1 := ⟨_, rfl⟩
      rw [← hns]
      have Xns := Lib.hid hns
      clear hns
      have hle_ns : ns ≤ 128 := by rw [Xns.out]; exact many_le _ 128 25
      go_upto_region 27 with fail
      obtain ⟨b0, hb0⟩ : ∃ b0, b0 = y47.heap.size := ⟨_, rfl⟩
      have hlS := lt_heap hr47_1
      have hlR := lt_heap hr47_0
      have hSb : y20.heap.size < b0 := by omega
      have hgb : g < b0 := by omega
      have hbz : b0 ≤ y47.heap.size := by omega
      have hSg : y20.heap.size ≠ g := by omega
      have hgS : g < y20.heap.size := by omega
      have hSw : w.heap.size < y20.heap.size := by omega
      clear hb0
      have hbE47 : b0 ≤ y47.heap.size := hbz
      (try clear hl0_0); (try clear hz0); (try clear hb1); (try clear hs1); (try clear hl1_0); (try clear hb2); (try clear hs2); (try clear hl2_0); (try clear hz2); (try clear hz20); (try clear hz21); (try clear hb21); (try clear hs21); (try clear hl21_0); (try clear hz22); (try clear hz23); (try clear hz24); (try clear hz25); (try clear hz26); (try clear hz27)
      (try clear hz28); (try clear hz29); (try clear hz30); (try clear hz31); (try clear hz32); (try clear hz33); (try clear hz34); (try clear hz35); (try clear hz36); (try clear hz37); (try clear hz38); (try clear hz39); (try clear hz40); (try clear hz41); (try clear hz42); (try clear hz43); (try clear hz44); (try clear hz45); (try clear hz46); (try clear hz47)
      (try clear hb0)
      obtain ⟨b47, hbj⟩ : ∃ b, b = y47.heap.size := ⟨_, rfl⟩
      have hbu47 : b47 ≤ y47.heap.size := by omega
      have hbv47 : y47.heap.size ≤ b47 := by omega
      clear hbj
      have hbw47 : b0 ≤ b47 := by omega
      have hlx47_0 := lt_heap hr47_0
      have hlx47_1 := lt_heap hr47_1
      go_upto_block 2 with fail
      go_cut [13] (fun i wx => ∃ (k : Nat) (vS : Value), k ≤ np ∧ ((itS paintE t47 np).2 = 0 → k = np) ∧ wx.heap[w.heap.size]? = some (.cells #[.int .i64 0, .int .i64 0, .int .i64 0, .int .i64 0, .int .i64 0, .int .i64 0, .int .u64 0, .int .i64 0, .int .i64 0, .int .i64 0, .int .i64 0, .int .i64 0, .int .i64 0, .slice none 0 0, .slice none 0 0, .slice none 0 0, .slice none 0 0] 49 (0, 0)) ∧ wx.heap[y20.heap.size]? = some (.cells #[.int .i64 (a1 : Int), .int .i64 (a2 : Int), .int .i64 (a3 : Int), .int .i64 (a4 : Int), .int .i64 (a5 : Int), .int .i64 a6, .int .u64 (sd : Int), .int .i64 r1, .int .i64 r2, .int .i64 r3, .int .i64 (e1 : Int), .int .i64 (e2 : Int), .int .i64 e3, vS, .slice none 0 0, .slice none 0 0, .slice none 0 0] 49 (0, 0)) ∧ Hid (wx.ownsRow b47 74 5 vS k (flatc 5 (itV paintE paintV 5 t47) k)) ∧ Hid (MAt g N ba bn bc l (itS paintE t47 np) wx) ∧ Hid (Below w.heap.size w wx) ∧ b47 ≤ wx.heap.size ∧ Hid (∀ q, b0 ≤ q → q < b47 → wx.heap[q]? = y47.heap[q]?))
      case first =>
        go_upto_region 28 with fail
        go_loopw [13] (fun i wr => ∃ (k : Nat) (vS : Value), k ≤ np ∧ i = .int .i64 k ∧ wr.heap[w.heap.size]? = some (.cells #[.int .i64 0, .int .i64 0, .int .i64 0, .int .i64 0, .int .i64 0, .int .i64 0, .int .u64 0, .int .i64 0, .int .i64 0, .int .i64 0, .int .i64 0, .int .i64 0, .int .i64 0, .slice none 0 0, .slice none 0 0, .slice none 0 0, .slice none 0 0] 49 (0, 0)) ∧ wr.heap[y20.heap.size]? = some (.cells #[.int .i64 (a1 : Int), .int .i64 (a2 : Int), .int .i64 (a3 : Int), .int .i64 (a4 : Int), .int .i64 (a5 : Int), .int .i64 a6, .int .u64 (sd : Int), .int .i64 r1, .int .i64 r2, .int .i64 r3, .int .i64 (e1 : Int), .int .i64 (e2 : Int), .int .i64 e3, vS, .slice none 0 0, .slice none 0 0, .slice none 0 0] 49 (0, 0)) ∧ Hid (wr.ownsRow b47 74 5 vS k (flatc 5 (itV paintE paintV 5 t47) k)) ∧ Hid (MAt g N ba bn bc l (itS paintE t47 k) wr) ∧ Hid (Below w.heap.size w wr) ∧ b47 ≤ wr.heap.size ∧ Hid (∀ q, b0 ≤ q → q < b47 → wr.heap[q]? = y47.heap[q]?)) (fun i _ => np - (intOf i).toNat)
        case atStart => exact ⟨0, _, by omega, rfl, hr47_0, hr47_1, Lib.hid (by simpa [flatc] using World.ownsRow_nil _ _ _ _), HP47, HU47, by omega, Lib.hid fun _ _ _ => rfl⟩
        case round =>
          clear hr47_0 hr47_1 HP47 HU47
          obtain ⟨k, vS, hk, rfl, hr67_0, hr67_1, HO, HP67, HU67, hbr, HK⟩ := hrel
          obtain ⟨y67, rfl⟩ : ∃ y : World, y = wr := ⟨_, rfl⟩
          have hz67 := HU67.out.size
          obtain ⟨s0, hs0⟩ : ∃ s : St, s = itS paintE t47 k := ⟨_, rfl⟩
          rw [← hs0] at HP67
          have HS0 := Lib.hid hs0
          clear hs0
          obtain ⟨he, hf, -, -⟩ := HP67.out.err
          obtain ⟨te, hte⟩ : ∃ te, te = s0.2 := ⟨_, rfl⟩
          rw [← hte] at he
          have HTE := Lib.hid hte
          clear hte
          by_cases hlt : k < np
          · have hlt' : (k : Int) < np := by omega
            by_cases h0 : te = 0
            · subst h0
              go_upto_region 31 with fail
              have hb68 := Ve.below_n1 y67 (.cells #[.int .i64 0, .int .i64 0, .int .i64 0, .int .i64 0, .int .i64 0] 74)
              have hN := heap_alloc_last y67 (.cells #[.int .i64 0, .int .i64 0, .int .i64 0, .int .i64 0, .int .i64 0] 74)
              obtain ⟨y68, hy68⟩ : ∃ y, y67.alloc (.cells #[.int .i64 0, .int .i64 0, .int .i64 0, .int .i64 0, .int .i64 0] 74) = y := ⟨_, rfl⟩
              have hs68 : y68.heap.size = y67.heap.size + 1 := by rw [← hy68]; simp
              rw [hy68] at hb68 hN ⊢
              clear hy68
              have hl68_0 := lt_heap hr67_0
              have hl68_1 := lt_heap hr67_1
              have hr68_0 := (hb68.block _ (lt_heap hr67_0)).trans hr67_0
              have hr68_1 := (hb68.block _ (lt_heap hr67_1)).trans hr67_1
              have HU68 := Lib.hid (HU67.out.trans (hb68.mono HU67.out.size))
              clear hr67_0 hr67_1 HU67
              have hr68_2 := hN
              clear hN
              have HQ0 := Lib.hid (fun q hq => (HO.out.lt q hq).2)
              replace hs68 : y67.heap.size < y68.heap.size := by omega
              have HP68 := Lib.hid (HP67.out.on hb68)
              clear HP67 he hf
              have hz68 := hb68.size
              have HO68 := Lib.hid (ownT_on (w' := y68) HO.out fun q _ h => hb68.block q h)
              clear HO
              have HK68 := Lib.hid (fun q (h1 : b0 ≤ q) (h2 : q < b47) => (hb68.block q (by omega)).trans (HK.out q h1 h2))
              clear HK
              go_wp2_with fail
              refine (mnum_lit g N ba bn bc l s0 1 1 rfl (by omega) _ HP68.out).mono ?_
              rintro e y69 ⟨⟨x0, rfl, lx0, Xx0⟩, hm, ha⟩
              have hr69_0 := (ha.block _ (lt_heap hr68_0) (lt_heap hr68_0) (by omega)).trans hr68_0
              have hr69_1 := (ha.block _ (lt_heap hr68_1) (lt_heap hr68_1) (by omega)).trans hr68_1
              have hr69_2 := (ha.block _ (lt_heap hr68_2) (lt_heap hr68_2) (by omega)).trans hr68_2
              have HK69 := Lib.hid (fun q (h1 : b0 ≤ q) (h2 : q < b47) => (ha.block q (by omega) (by omega) (by omega)).trans (HK68.out q h1 h2))
              clear HK68
              have HO69 := Lib.hid (own_via (w' := y69) HO68.out fun q hq => ha.block q (HO68.out.lt q hq).2 (HO68.out.lt q hq).2 (by have := (HO68.out.lt q hq).1; omega))
              clear HO68
              have hz69 := ha.size
              have HU69 := Lib.hid (HU68.out.trans (ha.below (by omega) (by omega) (by omega)))
              obtain ⟨t69, ht69⟩ : ∃ t : St, t = (numS s0 1).2 := ⟨_, rfl⟩
              rw [← ht69] at hm
              have HT69 := Lib.hid ht69
              have HP69 := Lib.hid hm
              clear hm ha ht69 HP68
              clear hr68_0 hr68_1 hr68_2 HU68
              have lx0 : x0 < 256 := lx0
              have c2_0 := cell_of_row _ _ 0 _ _ _ hr69_2
              simp at c2_0
              have fz : ∀ j, y69.frozen? ⟨y67.heap.size, j, none⟩ = false := fun j => by simp [World.frozen?, hr69_2]
              go_upto_region 32 with fail
              clear fz
              clear c2_0
              have hN : (y69.setCell ⟨y67.heap.size, 0, none⟩ (.int .i64 (x0 : Int))).heap[y67.heap.size]? = some (.cells #[.int .i64 (x0 : Int), .int .i64 0, .int .i64 0, .int .i64 0, .int .i64 0] 74 (0, 0)) := heap_setCell_same _ _ 0 _ _ _ hr69_2
              have hO : ∀ kk, kk ≠ y67.heap.size → (y69.setCell ⟨y67.heap.size, 0, none⟩ (.int .i64 (x0 : Int))).heap[kk]? = y69.heap[kk]? := fun kk hk => Below.heap_setCell _ _ _ _ hk
              have HUx : Below w.heap.size w (y69.setCell ⟨y67.heap.size, 0, none⟩ (.int .i64 (x0 : Int))) := HU69.out.setCell (by show w.heap.size ≤ y67.heap.size; omega) _
              have hPx := HP69.out.setFar (b := y67.heap.size) (by omega) 0 (.int .i64 (x0 : Int))
              have hzx : y69.heap.size ≤ (y69.setCell ⟨y67.heap.size, 0, none⟩ (.int .i64 (x0 : Int))).heap.size := by simp
              obtain ⟨y70, hy70⟩ : ∃ y, y69.setCell ⟨y67.heap.size, 0, none⟩ (.int .i64 (x0 : Int)) = y := ⟨_, rfl⟩
              rw [hy70] at hN hO HUx hPx hzx ⊢
              clear hy70
              have HU70 := Lib.hid HUx
              have HP70 := Lib.hid hPx
              have hz70 := hzx
              have hr70_0 := (hO _ (by omega)).trans hr69_0
              have hr70_1 := (hO _ (by omega)).trans hr69_1
              have hr70_2 := hN
              have HK70 := Lib.hid (fun q (h1 : b0 ≤ q) (h2 : q < b47) => (hO q (by omega)).trans (HK69.out q h1 h2))
              clear HK69
              have HO70 := Lib.hid (own_via (w' := y70) HO69.out fun q hq => hO q (by have := HQ0.out q hq; omega))
              clear HO69
              clear hN hO HUx hPx hzx HP69
              clear hr69_0 hr69_1 hr69_2 HU69
              go_wp2_with fail
              refine (mvec_any g N ba bn bc l t69 _ HP70.out).mono ?_
              rintro e y71 ⟨rfl, hm, ha⟩
              have hr71_0 := (ha.block _ (lt_heap hr70_0) (lt_heap hr70_0) (by omega)).trans hr70_0
              have hr71_1 := (ha.block _ (lt_heap hr70_1) (lt_heap hr70_1) (by omega)).trans hr70_1
              have hr71_2 := (ha.block _ (lt_heap hr70_2) (lt_heap hr70_2) (by omega)).trans hr70_2
              have HK71 := Lib.hid (fun q (h1 : b0 ≤ q) (h2 : q < b47) => (ha.block q (by omega) (by omega) (by omega)).trans (HK70.out q h1 h2))
              clear HK70
              have HO71 := Lib.hid (own_via (w' := y71) HO70.out fun q hq => ha.block q (HO70.out.lt q hq).2 (HO70.out.lt q hq).2 (by have := (HO70.out.lt q hq).1; omega))
              clear HO70
              have hz71 := ha.size
              have HU71 := Lib.hid (HU70.out.trans (ha.below (by omega) (by omega) (by omega)))
              obtain ⟨t71, ht71⟩ : ∃ t : St, t = (threeS t69).2 := ⟨_, rfl⟩
              rw [← ht71] at hm
              have HT71 := Lib.hid ht71
              have HP71 := Lib.hid hm
              clear hm ha ht71 HP70
              clear hr70_0 hr70_1 hr70_2 HU70
              obtain ⟨x1, hx1⟩ : ∃ v, v = (threeS t69).1 0 := ⟨_, rfl⟩
              rw [← hx1]
              have Xx1 := Lib.hid hx1
              clear hx1
              obtain ⟨x2, hx2⟩ : ∃ v, v = (threeS t69).1 1 := ⟨_, rfl⟩
              rw [← hx2]
              have Xx2 := Lib.hid hx2
              clear hx2
              obtain ⟨x3, hx3⟩ : ∃ v, v = (threeS t69).1 2 := ⟨_, rfl⟩
              rw [← hx3]
              have Xx3 := Lib.hid hx3
              clear hx3
              have c2_1 := cell_of_row _ _ 1 _ _ _ hr71_2
              have c2_2 := cell_of_row _ _ 2 _ _ _ hr71_2
              have c2_3 := cell_of_row _ _ 3 _ _ _ hr71_2
              simp at c2_1 c2_2 c2_3
              have fz : ∀ j, y71.frozen? ⟨y67.heap.size, j, none⟩ = false := fun j => by simp [World.frozen?, hr71_2]
              go_upto_region 33 with fail
              clear fz
              clear c2_1 c2_2 c2_3
              have hN : (((y71.setCell ⟨y67.heap.size, 1, none⟩ (.int .i64 x1)).setCell ⟨y67.heap.size, 2, none⟩ (.int .i64 x2)).setCell ⟨y67.heap.size, 3, none⟩ (.int .i64 x3)).heap[y67.heap.size]? = some (.cells #[.int .i64 (x0 : Int), .int .i64 x1, .int .i64 x2, .int .i64 x3, .int .i64 0] 74 (0, 0)) := part3 hr71_2 _ _ _ rfl
              have HUx : Below w.heap.size w (((y71.setCell ⟨y67.heap.size, 1, none⟩ (.int .i64 x1)).setCell ⟨y67.heap.size, 2, none⟩ (.int .i64 x2)).setCell ⟨y67.heap.size, 3, none⟩ (.int .i64 x3)) := below_put3o (k := y67.heap.size) HU71.out 1 (by omega) (.int .i64 x1) (.int .i64 x2) (.int .i64 x3)
              have hPx := ((HP71.out.setFar (b := y67.heap.size) (by omega) 1 (.int .i64 x1)).setFar (b := y67.heap.size) (by omega) 2 (.int .i64 x2)).setFar (b := y67.heap.size) (by omega) 3 (.int .i64 x3)
              have hzx : y71.heap.size ≤ (((y71.setCell ⟨y67.heap.size, 1, none⟩ (.int .i64 x1)).setCell ⟨y67.heap.size, 2, none⟩ (.int .i64 x2)).setCell ⟨y67.heap.size, 3, none⟩ (.int .i64 x3)).heap.size := by simp
              have hO : ∀ kk, kk ≠ y67.heap.size → (((y71.setCell ⟨y67.heap.size, 1, none⟩ (.int .i64 x1)).setCell ⟨y67.heap.size, 2, none⟩ (.int .i64 x2)).setCell ⟨y67.heap.size, 3, none⟩ (.int .i64 x3)).heap[kk]? = y71.heap[kk]? := fun kk hk => put3_other _ _ _ _ _ hk
              obtain ⟨y72, hy72⟩ : ∃ y, ((y71.setCell ⟨y67.heap.size, 1, none⟩ (.int .i64 x1)).setCell ⟨y67.heap.size, 2, none⟩ (.int .i64 x2)).setCell ⟨y67.heap.size, 3, none⟩ (.int .i64 x3) = y := ⟨_, rfl⟩
              rw [hy72] at hN hO HUx hPx hzx ⊢
              clear hy72
              have HU72 := Lib.hid HUx
              have HP72 := Lib.hid hPx
              have hz72 := hzx
              have hr72_0 := (hO _ (by omega)).trans hr71_0
              have hr72_1 := (hO _ (by omega)).trans hr71_1
              have hr72_2 := hN
              have HK72 := Lib.hid (fun q (h1 : b0 ≤ q) (h2 : q < b47) => (hO q (by omega)).trans (HK71.out q h1 h2))
              clear HK71
              have HO72 := Lib.hid (own_via (w' := y72) HO71.out fun q hq => hO q (by have := HQ0.out q hq; omega))
              clear HO71
              clear hN hO HUx hPx hzx HP71
              clear hr71_0 hr71_1 hr71_2 HU71
              go_wp2_with fail
              refine (mfix_any g N ba bn bc l t71 _ HP72.out).mono ?_
              rintro e y73 ⟨rfl, hm, ha⟩
              have hr73_0 := (ha.block _ (lt_heap hr72_0) (lt_heap hr72_0) (by omega)).trans hr72_0
              have hr73_1 := (ha.block _ (lt_heap hr72_1) (lt_heap hr72_1) (by omega)).trans hr72_1
              have hr73_2 := (ha.block _ (lt_heap hr72_2) (lt_heap hr72_2) (by omega)).trans hr72_2
              have HK73 := Lib.hid (fun q (h1 : b0 ≤ q) (h2 : q < b47) => (ha.block q (by omega) (by omega) (by omega)).trans (HK72.out q h1 h2))
              clear HK72
              have HO73 := Lib.hid (own_via (w' := y73) HO72.out fun q hq => ha.block q (HO72.out.lt q hq).2 (HO72.out.lt q hq).2 (by have := (HO72.out.lt q hq).1; omega))
              clear HO72
              have hz73 := ha.size
              have HU73 := Lib.hid (HU72.out.trans (ha.below (by omega) (by omega) (by omega)))
              obtain ⟨t73, ht73⟩ : ∃ t : St, t = (fixS t71).2 := ⟨_, rfl⟩
              rw [← ht73] at hm
              have HT73 := Lib.hid ht73
              have HP73 := Lib.hid hm
              clear hm ha ht73 HP72
              clear hr72_0 hr72_1 hr72_2 HU72
              obtain ⟨x4, hx4⟩ : ∃ v, v = (fixS t71).1 := ⟨_, rfl⟩
              rw [← hx4]
              have Xx4 := Lib.hid hx4
              clear hx4
              have c2_4 := cell_of_row _ _ 4 _ _ _ hr73_2
              simp at c2_4
              have fz : ∀ j, y73.frozen? ⟨y67.heap.size, j, none⟩ = false := fun j => by simp [World.frozen?, hr73_2]
              go_upto_region 34 with fail
              clear fz
              clear c2_4
              have hN : (y73.setCell ⟨y67.heap.size, 4, none⟩ (.int .i64 x4)).heap[y67.heap.size]? = some (.cells #[.int .i64 (x0 : Int), .int .i64 x1, .int .i64 x2, .int .i64 x3, .int .i64 x4] 74 (0, 0)) := heap_setCell_same _ _ 4 _ _ _ hr73_2
              have hO : ∀ kk, kk ≠ y67.heap.size → (y73.setCell ⟨y67.heap.size, 4, none⟩ (.int .i64 x4)).heap[kk]? = y73.heap[kk]? := fun kk hk => Below.heap_setCell _ _ _ _ hk
              have HUx : Below w.heap.size w (y73.setCell ⟨y67.heap.size, 4, none⟩ (.int .i64 x4)) := HU73.out.setCell (by show w.heap.size ≤ y67.heap.size; omega) _
              have hPx := HP73.out.setFar (b := y67.heap.size) (by omega) 4 (.int .i64 x4)
              have hzx : y73.heap.size ≤ (y73.setCell ⟨y67.heap.size, 4, none⟩ (.int .i64 x4)).heap.size := by simp
              obtain ⟨y74, hy74⟩ : ∃ y, y73.setCell ⟨y67.heap.size, 4, none⟩ (.int .i64 x4) = y := ⟨_, rfl⟩
              rw [hy74] at hN hO HUx hPx hzx ⊢
              clear hy74
              have HU74 := Lib.hid HUx
              have HP74 := Lib.hid hPx
              have hz74 := hzx
              have hr74_0 := (hO _ (by omega)).trans hr73_0
              have hr74_1 := (hO _ (by omega)).trans hr73_1
              have hr74_2 := hN
              have HK74 := Lib.hid (fun q (h1 : b0 ≤ q) (h2 : q < b47) => (hO q (by omega)).trans (HK73.out q h1 h2))
              clear HK73
              have HO74 := Lib.hid (own_via (w' := y74) HO73.out fun q hq => hO q (by have := HQ0.out q hq; omega))
              clear HO73
              clear hN hO HUx hPx hzx HP73
              clear hr73_0 hr73_1 hr73_2 HU73
              obtain ⟨i0, hi, hz0, hz1, hz2⟩ := info_parts dinfo_paint
              have c1_13 := cell_of_row _ _ 13 _ _ _ hr74_1
              have c2_0 := cell_of_row _ _ 0 _ _ _ hr74_2
              have c2_1 := cell_of_row _ _ 1 _ _ _ hr74_2
              have c2_2 := cell_of_row _ _ 2 _ _ _ hr74_2
              have c2_3 := cell_of_row _ _ 3 _ _ _ hr74_2
              have c2_4 := cell_of_row _ _ 4 _ _ _ hr74_2
              simp at c1_13 c2_0 c2_1 c2_2 c2_3 c2_4
              have HI := Lib.hid (HO74.out.alloc (.cells #[.int .i64 (x0 : Int), .int .i64 x1, .int .i64 x2, .int .i64 x3, .int .i64 x4] 74))
              have hsm : k * 200 ≤ 1000000 := by omega
              have hx1 : ∀ j u, ([.int .i64 (x0 : Int), .int .i64 x1, .int .i64 x2, .int .i64 x3, .int .i64 x4] : List Value)[j]? = some u → (y74.alloc (.cells #[.int .i64 (x0 : Int), .int .i64 x1, .int .i64 x2, .int .i64 x3, .int .i64 x4] 74)).cell? ((⟨y74.heap.size, 0, none⟩ : Addr).add j) = some u := by
                intro j u hj
                match j, hj with
                | 0, hj => simp at hj; subst hj; simp [Addr.add]
                | 1, hj => simp at hj; subst hj; simp [Addr.add]
                | 2, hj => simp at hj; subst hj; simp [Addr.add]
                | 3, hj => simp at hj; subst hj; simp [Addr.add]
                | 4, hj => simp at hj; subst hj; simp [Addr.add]
              have HX1 := Lib.hid hx1
              clear hx1
              have HX2 := Lib.hid (show ∀ u ∈ ([.int .i64 (x0 : Int), .int .i64 x1, .int .i64 x2, .int .i64 x3, .int .i64 x4] : List Value), u.oneCell' = true by intro u hu; simp only [List.mem_cons, List.not_mem_nil, or_false] at hu; rcases hu with rfl | rfl | rfl | rfl | rfl <;> rfl)
              go_wp2_with (first | (at_builtin; refine wpList_append_own _ rfl _ _ 44 rfl b47 74 i0 (.agg #[.int .i64 0, .int .i64 0, .int .i64 0, .int .i64 0, .int .i64 0]) 5 40 Tryz.underlying44 hi hz0 hz1 hz2 rfl (by decide) _ _ _ rfl HI.out ⟨y74.heap.size, 0, none⟩ 1 1 [.int .i64 (x0 : Int), .int .i64 x1, .int .i64 x2, .int .i64 x3, .int .i64 x4] rfl rfl HX1.out HX2.out ?c3 ?c4 ?c5 ?_))
              clear c1_13 c2_0 c2_1 c2_2 c2_3 c2_4
              case c3 => unfold maxLen; omega
              case c4 => omega
              case c5 => (first | omega | (simp; omega))
              intro v5 y9 hin2 hgrow2 _
              have HST := Lib.hid (show itS paintE t47 (k + 1) = t73 by show paintE (itS paintE t47 k) = _; rw [← HS0.out]; unfold paintE; rw [← HT69.out, ← HT71.out, ← HT73.out])
              have HSTEP : flatc 5 (itV paintE paintV 5 t47) (k + 1) = flatc 5 (itV paintE paintV 5 t47) k ++ [.int .i64 (x0 : Int), .int .i64 x1, .int .i64 x2, .int .i64 x3, .int .i64 x4] := by
                rw [step_paint, ← HS0.out]
                congr 1
                simp only [List.cons.injEq, Value.int.injEq, true_and, and_true]
                refine ⟨?_, ?_, ?_, ?_, ?_⟩
                · show ((numS s0 1).1 : Int) = _; rw [Xx0.out]
                · show (threeS (numS s0 1).2).1 0 = _; rw [← HT69.out, ← Xx1.out]
                · show (threeS (numS s0 1).2).1 1 = _; rw [← HT69.out, ← Xx2.out]
                · show (threeS (numS s0 1).2).1 2 = _; rw [← HT69.out, ← Xx3.out]
                · show (fixS (threeS (numS s0 1).2).2).1 = _; rw [← HT69.out, ← HT71.out, ← Xx4.out]
              rw [← HSTEP] at hin2
              clear HSTEP
              obtain ⟨fa, fc, hfv⟩ := Sc.own_form hin2
              subst hfv
              have hbx := Ve.below_n1 y74 (.cells #[.int .i64 (x0 : Int), .int .i64 x1, .int .i64 x2, .int .i64 x3, .int .i64 x4] 74)
              have hq9 := fun q hq => (HO74.out.lt q hq).1
              have hsx := hbx.size
              have hr9_0 := (hgrow2.block _ (Nat.lt_of_lt_of_le (lt_heap hr74_0) hsx) (fun e => by have := hq9 _ e.symm; omega)).trans ((hbx.block _ (lt_heap hr74_0)).trans hr74_0)
              have hr9_1 := (hgrow2.block _ (Nat.lt_of_lt_of_le (lt_heap hr74_1) hsx) (fun e => by have := hq9 _ e.symm; omega)).trans ((hbx.block _ (lt_heap hr74_1)).trans hr74_1)
              have hU9 := (HU74.out.trans (hbx.mono HU74.out.size)).grown hgrow2 (by have := HU74.out.size; omega) (fun q hq => by have := hq9 q hq; omega)
              have hP9 := mat_near (HP74.out.on hbx) ((Below.refl (g + 1) _).grown hgrow2 (by omega) (fun q hq => by have := hq9 q hq; omega))
              have hs9 := hgrow2.size
              have cS := cell_of_row _ _ 13 _ _ _ hr9_1
              simp at cS
              have fz : ∀ j, y9.frozen? ⟨y20.heap.size, j, none⟩ = false := fun j => by simp [World.frozen?, hr9_1]
              go_wp2_with fail
              clear fz cS
              have hN : (y9.setCell ⟨y20.heap.size, 13, none⟩ (.slice fa (k + 1) fc)).heap[y20.heap.size]? = some (.cells #[.int .i64 (a1 : Int), .int .i64 (a2 : Int), .int .i64 (a3 : Int), .int .i64 (a4 : Int), .int .i64 (a5 : Int), .int .i64 a6, .int .u64 (sd : Int), .int .i64 r1, .int .i64 r2, .int .i64 r3, .int .i64 (e1 : Int), .int .i64 (e2 : Int), .int .i64 e3, .slice fa (k + 1) fc, .slice none 0 0, .slice none 0 0, .slice none 0 0] 49 (0, 0)) := heap_setCell_same _ _ 13 _ _ _ hr9_1
              have hO : ∀ kk, kk ≠ y20.heap.size → (y9.setCell ⟨y20.heap.size, 13, none⟩ (.slice fa (k + 1) fc)).heap[kk]? = y9.heap[kk]? := fun kk hk => Below.heap_setCell _ _ _ _ hk
              have HUx : Below w.heap.size w (y9.setCell ⟨y20.heap.size, 13, none⟩ (.slice fa (k + 1) fc)) := hU9.setCell (by show w.heap.size ≤ y20.heap.size; omega) _
              have hPx := hP9.setFar (b := y20.heap.size) (by omega) 13 (.slice fa (k + 1) fc)
              have hr0x := (hO _ (by omega)).trans hr9_0
              have HOx := Lib.hid (own_via (w' := (y9.setCell ⟨y20.heap.size, 13, none⟩ (.slice fa (k + 1) fc))) hin2 fun q hq => hO q (by have := (hin2.lt q hq).1; omega))
              have HKx := Lib.hid (fun q (h1 : b0 ≤ q) (h2 : q < b47) => (hO q (by omega)).trans ((hgrow2.block q (by omega) (fun e => by have := hq9 _ e.symm; omega)).trans ((hbx.block q (by omega)).trans (HK74.out q h1 h2))))
              go_roundw
              case rel => exact ⟨k + 1, .slice fa (k + 1) fc, by omega, by go_num, hr0x, hN, HOx, Lib.hid (by rw [HST.out]; exact hPx), Lib.hid HUx, by simp; omega, HKx⟩
              case measure => simp [intOf]; omega
            · have d1 : (te == 0) = false := by simpa using h0
              have d2 := decide_eq_false h0
              have hkp : itS paintE t47 np = s0 := by rw [it_keep paint_keep (k := k) (by rw [← HS0.out, ← HTE.out]; exact h0) np hk]; exact HS0.out.symm
              go_wp2_with fail
              go_meet
              exact ⟨k, vS, hk, fun h => absurd (by rw [hkp, ← HTE.out] at h; exact h) h0, hr67_0, hr67_1, HO, Lib.hid (by rw [hkp]; exact HP67.out), HU67, hbr, HK⟩
          · have hkk : np = k := by omega
            subst hkk
            go_wp2_with fail
            go_meet
            exact ⟨_, vS, hk, fun _ => rfl, hr67_0, hr67_1, HO, Lib.hid (by rw [← HS0.out]; exact HP67.out), HU67, hbr, HK⟩
      case rest =>
        obtain ⟨k87, vS87, hk87, hok87, hr87_0, hr87_1, HO87, HP87, HU87, hbr87, HKZ⟩ := hcut
        rename World => y87
        clear HKZ
        have hzz87 := HU87.out.size
        obtain ⟨t87, ht87⟩ : ∃ t : St, t = itS paintE t47 np := ⟨_, rfl⟩
        rw [← ht87] at HP87
        have HT87 := Lib.hid ht87
        clear ht87
        have hbE87 : b0 ≤ y87.heap.size := Nat.le_trans hbw47 hbr87
        (try clear hl0_0); (try clear hz0); (try clear hb1); (try clear hs1); (try clear hl1_0); (try clear hb2); (try clear hs2); (try clear hl2_0); (try clear hz2); (try clear hz20); (try clear hz21); (try clear hb21); (try clear hs21); (try clear hl21_0); (try clear hz22); (try clear hz23); (try clear hz24); (try clear hz25); (try clear hz26); (try clear hz27)
        (try clear hz28); (try clear hz29); (try clear hz30); (try clear hz31); (try clear hz32); (try clear hz33); (try clear hz34); (try clear hz35); (try clear hz36); (try clear hz37); (try clear hz38); (try clear hz39); (try clear hz40); (try clear hz41); (try clear hz42); (try clear hz43); (try clear hz44); (try clear hz45); (try clear hz46); (try clear hz47)
        (try clear hb0); (try clear hbu47); (try clear hbv47); (try clear hlx47_0); (try clear hlx47_1); (try clear hz67); (try clear hs0); (try clear hb68); (try clear hs68); (try clear hl68_0); (try clear hl68_1); (try clear hz68); (try clear hz69); (try clear hz70); (try clear hz71); (try clear hz72); (try clear hz73); (try clear hz74); (try clear hz1); (try clear hs9)
        (try clear hbr87); (try clear hzz87)
        obtain ⟨b87, hbj⟩ : ∃ b, b = y87.heap.size := ⟨_, rfl⟩
        have hbu87 : b87 ≤ y87.heap.size := by omega
        have hbv87 : y87.heap.size ≤ b87 := by omega
        clear hbj
        have hlx87 := lt_heap hr87_1
        have hbw87 : b0 ≤ b87 := by omega
        go_upto_block 4 with fail
        go_cut [15] (fun i wx => ∃ (k : Nat) (vS : Value), k ≤ nt ∧ ((itS trackE t87 nt).2 = 0 → k = nt) ∧ wx.heap[w.heap.size]? = some (.cells #[.int .i64 0, .int .i64 0, .int .i64 0, .int .i64 0, .int .i64 0, .int .i64 0, .int .u64 0, .int .i64 0, .int .i64 0, .int .i64 0, .int .i64 0, .int .i64 0, .int .i64 0, .slice none 0 0, .slice none 0 0, .slice none 0 0, .slice none 0 0] 49 (0, 0)) ∧ wx.heap[y20.heap.size]? = some (.cells #[.int .i64 (a1 : Int), .int .i64 (a2 : Int), .int .i64 (a3 : Int), .int .i64 (a4 : Int), .int .i64 (a5 : Int), .int .i64 a6, .int .u64 (sd : Int), .int .i64 r1, .int .i64 r2, .int .i64 r3, .int .i64 (e1 : Int), .int .i64 (e2 : Int), .int .i64 e3, vS87, vS, .slice none 0 0, .slice none 0 0] 49 (0, 0)) ∧ Hid (∃ xs, wx.ownsRow b87 77 2 vS k xs ∧ ((itS trackE t87 nt).2 = 0 → TrD b87 wx t87 k xs)) ∧ Hid (MAt g N ba bn bc l (itS trackE t87 nt) wx) ∧ Hid (Below w.heap.size w wx) ∧ b87 ≤ wx.heap.size ∧ Hid (∀ q, b0 ≤ q → q < b87 → wx.heap[q]? = y87.heap[q]?))
        case first =>
          go_upto_region 36 with fail
          go_loopw [15] (fun i wr => ∃ (k : Nat) (vS : Value), k ≤ nt ∧ i = .int .i64 k ∧ wr.heap[w.heap.size]? = some (.cells #[.int .i64 0, .int .i64 0, .int .i64 0, .int .i64 0, .int .i64 0, .int .i64 0, .int .u64 0, .int .i64 0, .int .i64 0, .int .i64 0, .int .i64 0, .int .i64 0, .int .i64 0, .slice none 0 0, .slice none 0 0, .slice none 0 0, .slice none 0 0] 49 (0, 0)) ∧ wr.heap[y20.heap.size]? = some (.cells #[.int .i64 (a1 : Int), .int .i64 (a2 : Int), .int .i64 (a3 : Int), .int .i64 (a4 : Int), .int .i64 (a5 : Int), .int .i64 a6, .int .u64 (sd : Int), .int .i64 r1, .int .i64 r2, .int .i64 r3, .int .i64 (e1 : Int), .int .i64 (e2 : Int), .int .i64 e3, vS87, vS, .slice none 0 0, .slice none 0 0] 49 (0, 0)) ∧ Hid (∃ xs, wr.ownsRow b87 77 2 vS k xs ∧ ((itS trackE t87 k).2 = 0 → TrD b87 wr t87 k xs)) ∧ Hid (MAt g N ba bn bc l (itS trackE t87 k) wr) ∧ Hid (Below w.heap.size w wr) ∧ b87 ≤ wr.heap.size ∧ Hid (∀ q, b0 ≤ q → q < b87 → wr.heap[q]? = y87.heap[q]?)) (fun i _ => nt - (intOf i).toNat)
          case atStart => exact ⟨0, _, by omega, rfl, hr87_0, hr87_1, Lib.hid ⟨[], World.ownsRow_nil _ _ _ _, fun _ => ⟨rfl, fun i hi => absurd hi (by omega)⟩⟩, HP87, HU87, by omega, Lib.hid fun _ _ _ => rfl⟩
          case round =>
            clear hr87_0 hr87_1 HP87 HU87
            obtain ⟨k, vS, hk, rfl, hr107_0, hr107_1, HX, HP107, HU107, hbr, HK⟩ := hrel
            obtain ⟨y107, rfl⟩ : ∃ y : World, y = wr := ⟨_, rfl⟩
            have hz107 := HU107.out.size
            obtain ⟨s0, hs0⟩ : ∃ s : St, s = itS trackE t87 k := ⟨_, rfl⟩
            rw [← hs0] at HP107
            have HS0 := Lib.hid hs0
            clear hs0
            obtain ⟨he, hf, -, -⟩ := HP107.out.err
            obtain ⟨te, hte⟩ : ∃ te, te = s0.2 := ⟨_, rfl⟩
            rw [← hte] at he
            have HTE := Lib.hid hte
            clear hte
            by_cases hlt : k < nt
            · have hlt' : (k : Int) < nt := by omega
              by_cases h0 : te = 0
              · subst h0
                go_upto_region 39 with fail
                have hb108 := Ve.below_n1 y107 (.cells #[.int .i64 0, .slice none 0 0] 77)
                have hN := heap_alloc_last y107 (.cells #[.int .i64 0, .slice none 0 0] 77)
                obtain ⟨y108, hy108⟩ : ∃ y, y107.alloc (.cells #[.int .i64 0, .slice none 0 0] 77) = y := ⟨_, rfl⟩
                have hs108 : y108.heap.size = y107.heap.size + 1 := by rw [← hy108]; simp
                rw [hy108] at hb108 hN ⊢
                clear hy108
                have hl108_0 := lt_heap hr107_0
                have hl108_1 := lt_heap hr107_1
                have hr108_0 := (hb108.block _ (lt_heap hr107_0)).trans hr107_0
                have hr108_1 := (hb108.block _ (lt_heap hr107_1)).trans hr107_1
                have HU108 := Lib.hid (HU107.out.trans (hb108.mono HU107.out.size))
                clear hr107_0 hr107_1 HU107
                have hr108_2 := hN
                clear hN
                replace hs108 : y107.heap.size < y108.heap.size := by omega
                have HP108 := Lib.hid (HP107.out.on hb108)
                clear HP107 he hf
                have hz108 := hb108.size
                have HO_ := HK
                clear HK
                have HK108 := Lib.hid (fun q (h1 : b0 ≤ q) (h2 : q < y107.heap.size) => hb108.block q h2)
                go_wp2_with fail
                refine (mnum_lit g N ba bn bc l s0 1 1 rfl (by omega) _ HP108.out).mono ?_
                rintro e y109 ⟨⟨x0, rfl, lx0, Xx0⟩, hm, ha⟩
                have hr109_0 := (ha.block _ (lt_heap hr108_0) (lt_heap hr108_0) (by omega)).trans hr108_0
                have hr109_1 := (ha.block _ (lt_heap hr108_1) (lt_heap hr108_1) (by omega)).trans hr108_1
                have hr109_2 := (ha.block _ (lt_heap hr108_2) (lt_heap hr108_2) (by omega)).trans hr108_2
                have HK109 := Lib.hid (fun q (h1 : b0 ≤ q) (h2 : q < y107.heap.size) => (ha.block q (by omega) (by omega) (by omega)).trans (HK108.out q h1 h2))
                clear HK108
                have hz109 := ha.size
                have HU109 := Lib.hid (HU108.out.trans (ha.below (by omega) (by omega) (by omega)))
                obtain ⟨t109, ht109⟩ : ∃ t : St, t = (numS s0 1).2 := ⟨_, rfl⟩
                rw [← ht109] at hm
                have HT109 := Lib.hid ht109
                have HP109 := Lib.hid hm
                clear hm ha ht109 HP108
                clear hr108_0 hr108_1 hr108_2 HU108
                have lx0 : x0 < 256 := lx0
                have c2_0 := cell_of_row _ _ 0 _ _ _ hr109_2
                simp at c2_0
                have fz : ∀ j, y109.frozen? ⟨y107.heap.size, j, none⟩ = false := fun j => by simp [World.frozen?, hr109_2]
                go_upto_region 40 with fail
                clear fz
                clear c2_0
                have hN : (y109.setCell ⟨y107.heap.size, 0, none⟩ (.int .i64 (x0 : Int))).heap[y107.heap.size]? = some (.cells #[.int .i64 (x0 : Int), .slice none 0 0] 77 (0, 0)) := heap_setCell_same _ _ 0 _ _ _ hr109_2
                have hO : ∀ kk, kk ≠ y107.heap.size → (y109.setCell ⟨y107.heap.size, 0, none⟩ (.int .i64 (x0 : Int))).heap[kk]? = y109.heap[kk]? := fun kk hk => Below.heap_setCell _ _ _ _ hk
                have HUx : Below w.heap.size w (y109.setCell ⟨y107.heap.size, 0, none⟩ (.int .i64 (x0 : Int))) := HU109.out.setCell (by show w.heap.size ≤ y107.heap.size; omega) _
                have hPx := HP109.out.setFar (b := y107.heap.size) (by omega) 0 (.int .i64 (x0 : Int))
                have hzx : y109.heap.size ≤ (y109.setCell ⟨y107.heap.size, 0, none⟩ (.int .i64 (x0 : Int))).heap.size := by simp
                obtain ⟨y110, hy110⟩ : ∃ y, y109.setCell ⟨y107.heap.size, 0, none⟩ (.int .i64 (x0 : Int)) = y := ⟨_, rfl⟩
                rw [hy110] at hN hO HUx hPx hzx ⊢
                clear hy110
                have HU110 := Lib.hid HUx
                have HP110 := Lib.hid hPx
                have hz110 := hzx
                have hr110_0 := (hO _ (by omega)).trans hr109_0
                have hr110_1 := (hO _ (by omega)).trans hr109_1
                have hr110_2 := hN
                have HK110 := Lib.hid (fun q (h1 : b0 ≤ q) (h2 : q < y107.heap.size) => (hO q (by omega)).trans (HK109.out q h1 h2))
                clear HK109
                clear hN hO HUx hPx hzx HP109
                clear hr109_0 hr109_1 hr109_2 HU109
                go_wp2_with fail
                refine (mmany g N ba bn bc l t109 16 23 _ HP110.out).mono ?_
                rintro e y111 ⟨rfl, hm, ha⟩
                have hr111_0 := (ha.block _ (lt_heap hr110_0) (lt_heap hr110_0) (by omega)).trans hr110_0
                have hr111_1 := (ha.block _ (lt_heap hr110_1) (lt_heap hr110_1) (by omega)).trans hr110_1
                have hr111_2 := (ha.block _ (lt_heap hr110_2) (lt_heap hr110_2) (by omega)).trans hr110_2
                have HK111 := Lib.hid (fun q (h1 : b0 ≤ q) (h2 : q < y107.heap.size) => (ha.block q (by omega) (by omega) (by omega)).trans (HK110.out q h1 h2))
                clear HK110
                have hz111 := ha.size
                have HU111 := Lib.hid (HU110.out.trans (ha.below (by omega) (by omega) (by omega)))
                obtain ⟨t111, ht111⟩ : ∃ t : St, t = (manyS t109 16 23).2 := ⟨_, rfl⟩
                rw [← ht111] at hm
                have HT111 := Lib.hid ht111
                have HP111 := Lib.hid hm
                clear hm ha ht111 HP110
                clear hr110_0 hr110_1 hr110_2 HU110
                obtain ⟨nk, hnk⟩ : ∃ v, v = (manyS t109 16 23).1 := ⟨_, rfl⟩
                rw [← hnk]
                have Xnk := Lib.hid hnk
                clear hnk
                have hle_nk : nk ≤ 16 := by rw [Xnk.out]; exact many_le _ 16 23
                obtain ⟨b111, hbj⟩ : ∃ b, b = y111.heap.size := ⟨_, rfl⟩
                have hbu111 : b111 ≤ y111.heap.size := by omega
                have hbv111 : y111.heap.size ≤ b111 := by omega
                clear hbj
                have hbw111 : b0 ≤ b111 := by omega
                have hlx111_0 := lt_heap hr111_0
                have hlx111_1 := lt_heap hr111_1
                have hlx111_2 := lt_heap hr111_2
                go_upto_block 6 with fail
                go_cut [18] (fun i wx => ∃ (k : Nat) (vK : Value), k ≤ nk ∧ ((itS keyE t111 nk).2 = 0 → k = nk) ∧ wx.heap[w.heap.size]? = some (.cells #[.int .i64 0, .int .i64 0, .int .i64 0, .int .i64 0, .int .i64 0, .int .i64 0, .int .u64 0, .int .i64 0, .int .i64 0, .int .i64 0, .int .i64 0, .int .i64 0, .int .i64 0, .slice none 0 0, .slice none 0 0, .slice none 0 0, .slice none 0 0] 49 (0, 0)) ∧ wx.heap[y20.heap.size]? = some (.cells #[.int .i64 (a1 : Int), .int .i64 (a2 : Int), .int .i64 (a3 : Int), .int .i64 (a4 : Int), .int .i64 (a5 : Int), .int .i64 a6, .int .u64 (sd : Int), .int .i64 r1, .int .i64 r2, .int .i64 r3, .int .i64 (e1 : Int), .int .i64 (e2 : Int), .int .i64 e3, vS87, vS, .slice none 0 0, .slice none 0 0] 49 (0, 0)) ∧ wx.heap[y107.heap.size]? = some (.cells #[.int .i64 (x0 : Int), vK] 77 (0, 0)) ∧ Hid (wx.ownsRow b111 79 4 vK k (flatc 4 (itV keyE keyV 4 t111) k)) ∧ Hid (MAt g N ba bn bc l (itS keyE t111 nk) wx) ∧ Hid (Below w.heap.size w wx) ∧ b111 ≤ wx.heap.size ∧ Hid (∀ q, b0 ≤ q → q < b111 → q ≠ y107.heap.size → wx.heap[q]? = y111.heap[q]?))
                case first =>
                  go_upto_region 42 with fail
                  go_loopw [18] (fun i wr => ∃ (k : Nat) (vK : Value), k ≤ nk ∧ i = .int .i64 k ∧ wr.heap[w.heap.size]? = some (.cells #[.int .i64 0, .int .i64 0, .int .i64 0, .int .i64 0, .int .i64 0, .int .i64 0, .int .u64 0, .int .i64 0, .int .i64 0, .int .i64 0, .int .i64 0, .int .i64 0, .int .i64 0, .slice none 0 0, .slice none 0 0, .slice none 0 0, .slice none 0 0] 49 (0, 0)) ∧ wr.heap[y20.heap.size]? = some (.cells #[.int .i64 (a1 : Int), .int .i64 (a2 : Int), .int .i64 (a3 : Int), .int .i64 (a4 : Int), .int .i64 (a5 : Int), .int .i64 a6, .int .u64 (sd : Int), .int .i64 r1, .int .i64 r2, .int .i64 r3, .int .i64 (e1 : Int), .int .i64 (e2 : Int), .int .i64 e3, vS87, vS, .slice none 0 0, .slice none 0 0] 49 (0, 0)) ∧ wr.heap[y107.heap.size]? = some (.cells #[.int .i64 (x0 : Int), vK] 77 (0, 0)) ∧ Hid (wr.ownsRow b111 79 4 vK k (flatc 4 (itV keyE keyV 4 t111) k)) ∧ Hid (MAt g N ba bn bc l (itS keyE t111 k) wr) ∧ Hid (Below w.heap.size w wr) ∧ b111 ≤ wr.heap.size ∧ Hid (∀ q, b0 ≤ q → q < b111 → q ≠ y107.heap.size → wr.heap[q]? = y111.heap[q]?)) (fun i _ => nk - (intOf i).toNat)
                  case atStart => exact ⟨0, _, by omega, rfl, hr111_0, hr111_1, hr111_2, Lib.hid (by simpa [flatc] using World.ownsRow_nil _ _ _ _), HP111, HU111, by omega, Lib.hid fun _ _ _ _ => rfl⟩
                  case round =>
                    clear hr111_0 hr111_1 hr111_2 HP111 HU111
                    obtain ⟨k, vK, hk, rfl, hr131_0, hr131_1, hr131_2, HO, HP131, HU131, hbr, HK⟩ := hrel
                    obtain ⟨y131, rfl⟩ : ∃ y : World, y = wr := ⟨_, rfl⟩
                    have hz131 := HU131.out.size
                    obtain ⟨s0, hs0⟩ : ∃ s : St, s = itS keyE t111 k := ⟨_, rfl⟩
                    rw [← hs0] at HP131
                    have HS0 := Lib.hid hs0
                    clear hs0
                    obtain ⟨he, hf, -, -⟩ := HP131.out.err
                    obtain ⟨te, hte⟩ : ∃ te, te = s0.2 := ⟨_, rfl⟩
                    rw [← hte] at he
                    have HTE := Lib.hid hte
                    clear hte
                    by_cases hlt : k < nk
                    · have hlt' : (k : Int) < nk := by omega
                      by_cases h0 : te = 0
                      · subst h0
                        go_upto_region 45 with fail
                        have hb132 := Ve.below_n1 y131 (.cells #[.int .i64 0, .int .i64 0, .int .i64 0, .int .i64 0] 79)
                        have hN := heap_alloc_last y131 (.cells #[.int .i64 0, .int .i64 0, .int .i64 0, .int .i64 0] 79)
                        obtain ⟨y132, hy132⟩ : ∃ y, y131.alloc (.cells #[.int .i64 0, .int .i64 0, .int .i64 0, .int .i64 0] 79) = y := ⟨_, rfl⟩
                        have hs132 : y132.heap.size = y131.heap.size + 1 := by rw [← hy132]; simp
                        rw [hy132] at hb132 hN ⊢
                        clear hy132
                        have hl132_0 := lt_heap hr131_0
                        have hl132_1 := lt_heap hr131_1
                        have hl132_2 := lt_heap hr131_2
                        have hr132_0 := (hb132.block _ (lt_heap hr131_0)).trans hr131_0
                        have hr132_1 := (hb132.block _ (lt_heap hr131_1)).trans hr131_1
                        have hr132_2 := (hb132.block _ (lt_heap hr131_2)).trans hr131_2
                        have HU132 := Lib.hid (HU131.out.trans (hb132.mono HU131.out.size))
                        clear hr131_0 hr131_1 hr131_2 HU131
                        have hr132_3 := hN
                        clear hN
                        have HQ0 := Lib.hid (fun q hq => (HO.out.lt q hq).2)
                        replace hs132 : y131.heap.size < y132.heap.size := by omega
                        have HP132 := Lib.hid (HP131.out.on hb132)
                        clear HP131 he hf
                        have hz132 := hb132.size
                        have HO132 := Lib.hid (ownT_on (w' := y132) HO.out fun q _ h => hb132.block q h)
                        clear HO
                        have HK132 := Lib.hid (fun q (h1 : b0 ≤ q) (h2 : q < b111) (h3 : q ≠ y107.heap.size) => (hb132.block q (by omega)).trans (HK.out q h1 h2 h3))
                        clear HK
                        go_wp2_with fail
                        refine (mfix_any g N ba bn bc l s0 _ HP132.out).mono ?_
                        rintro e y133 ⟨rfl, hm, ha⟩
                        have hr133_0 := (ha.block _ (lt_heap hr132_0) (lt_heap hr132_0) (by omega)).trans hr132_0
                        have hr133_1 := (ha.block _ (lt_heap hr132_1) (lt_heap hr132_1) (by omega)).trans hr132_1
                        have hr133_2 := (ha.block _ (lt_heap hr132_2) (lt_heap hr132_2) (by omega)).trans hr132_2
                        have hr133_3 := (ha.block _ (lt_heap hr132_3) (lt_heap hr132_3) (by omega)).trans hr132_3
                        have HK133 := Lib.hid (fun q (h1 : b0 ≤ q) (h2 : q < b111) (h3 : q ≠ y107.heap.size) => (ha.block q (by omega) (by omega) (by omega)).trans (HK132.out q h1 h2 h3))
                        clear HK132
                        have HO133 := Lib.hid (own_via (w' := y133) HO132.out fun q hq => ha.block q (HO132.out.lt q hq).2 (HO132.out.lt q hq).2 (by have := (HO132.out.lt q hq).1; omega))
                        clear HO132
                        have hz133 := ha.size
                        have HU133 := Lib.hid (HU132.out.trans (ha.below (by omega) (by omega) (by omega)))
                        obtain ⟨t133, ht133⟩ : ∃ t : St, t = (fixS s0).2 := ⟨_, rfl⟩
                        rw [← ht133] at hm
                        have HT133 := Lib.hid ht133
                        have HP133 := Lib.hid hm
                        clear hm ha ht133 HP132
                        clear hr132_0 hr132_1 hr132_2 hr132_3 HU132
                        obtain ⟨z0, hz0⟩ : ∃ v, v = (fixS s0).1 := ⟨_, rfl⟩
                        rw [← hz0]
                        have Xz0 := Lib.hid hz0
                        clear hz0
                        have c3_0 := cell_of_row _ _ 0 _ _ _ hr133_3
                        simp at c3_0
                        have fz : ∀ j, y133.frozen? ⟨y131.heap.size, j, none⟩ = false := fun j => by simp [World.frozen?, hr133_3]
                        go_upto_region 46 with fail
                        clear fz
                        clear c3_0
                        have hN : (y133.setCell ⟨y131.heap.size, 0, none⟩ (.int .i64 z0)).heap[y131.heap.size]? = some (.cells #[.int .i64 z0, .int .i64 0, .int .i64 0, .int .i64 0] 79 (0, 0)) := heap_setCell_same _ _ 0 _ _ _ hr133_3
                        have hO : ∀ kk, kk ≠ y131.heap.size → (y133.setCell ⟨y131.heap.size, 0, none⟩ (.int .i64 z0)).heap[kk]? = y133.heap[kk]? := fun kk hk => Below.heap_setCell _ _ _ _ hk
                        have HUx : Below w.heap.size w (y133.setCell ⟨y131.heap.size, 0, none⟩ (.int .i64 z0)) := HU133.out.setCell (by show w.heap.size ≤ y131.heap.size; omega) _
                        have hPx := HP133.out.setFar (b := y131.heap.size) (by omega) 0 (.int .i64 z0)
                        have hzx : y133.heap.size ≤ (y133.setCell ⟨y131.heap.size, 0, none⟩ (.int .i64 z0)).heap.size := by simp
                        obtain ⟨y134, hy134⟩ : ∃ y, y133.setCell ⟨y131.heap.size, 0, none⟩ (.int .i64 z0) = y := ⟨_, rfl⟩
                        rw [hy134] at hN hO HUx hPx hzx ⊢
                        clear hy134
                        have HU134 := Lib.hid HUx
                        have HP134 := Lib.hid hPx
                        have hz134 := hzx
                        have hr134_0 := (hO _ (by omega)).trans hr133_0
                        have hr134_1 := (hO _ (by omega)).trans hr133_1
                        have hr134_2 := (hO _ (by omega)).trans hr133_2
                        have hr134_3 := hN
                        have HK134 := Lib.hid (fun q (h1 : b0 ≤ q) (h2 : q < b111) (h3 : q ≠ y107.heap.size) => (hO q (by omega)).trans (HK133.out q h1 h2 h3))
                        clear HK133
                        have HO134 := Lib.hid (own_via (w' := y134) HO133.out fun q hq => hO q (by have := HQ0.out q hq; omega))
                        clear HO133
                        clear hN hO HUx hPx hzx HP133
                        clear hr133_0 hr133_1 hr133_2 hr133_3 HU133
                        go_wp2_with fail
                        refine (mvec_any g N ba bn bc l t133 _ HP134.out).mono ?_
                        rintro e y135 ⟨rfl, hm, ha⟩
                        have hr135_0 := (ha.block _ (lt_heap hr134_0) (lt_heap hr134_0) (by omega)).trans hr134_0
                        have hr135_1 := (ha.block _ (lt_heap hr134_1) (lt_heap hr134_1) (by omega)).trans hr134_1
                        have hr135_2 := (ha.block _ (lt_heap hr134_2) (lt_heap hr134_2) (by omega)).trans hr134_2
                        have hr135_3 := (ha.block _ (lt_heap hr134_3) (lt_heap hr134_3) (by omega)).trans hr134_3
                        have HK135 := Lib.hid (fun q (h1 : b0 ≤ q) (h2 : q < b111) (h3 : q ≠ y107.heap.size) => (ha.block q (by omega) (by omega) (by omega)).trans (HK134.out q h1 h2 h3))
                        clear HK134
                        have HO135 := Lib.hid (own_via (w' := y135) HO134.out fun q hq => ha.block q (HO134.out.lt q hq).2 (HO134.out.lt q hq).2 (by have := (HO134.out.lt q hq).1; omega))
                        clear HO134
                        have hz135 := ha.size
                        have HU135 := Lib.hid (HU134.out.trans (ha.below (by omega) (by omega) (by omega)))
                        obtain ⟨t135, ht135⟩ : ∃ t : St, t = (threeS t133).2 := ⟨_, rfl⟩
                        rw [← ht135] at hm
                        have HT135 := Lib.hid ht135
                        have HP135 := Lib.hid hm
                        clear hm ha ht135 HP134
                        clear hr134_0 hr134_1 hr134_2 hr134_3 HU134
                        obtain ⟨z1, hz1⟩ : ∃ v, v = (threeS t133).1 0 := ⟨_, rfl⟩
                        rw [← hz1]
                        have Xz1 := Lib.hid hz1
                        clear hz1
                        obtain ⟨z2, hz2⟩ : ∃ v, v = (threeS t133).1 1 := ⟨_, rfl⟩
                        rw [← hz2]
                        have Xz2 := Lib.hid hz2
                        clear hz2
                        obtain ⟨z3, hz3⟩ : ∃ v, v = (threeS t133).1 2 := ⟨_, rfl⟩
                        rw [← hz3]
                        have Xz3 := Lib.hid hz3
                        clear hz3
                        have c3_1 := cell_of_row _ _ 1 _ _ _ hr135_3
                        have c3_2 := cell_of_row _ _ 2 _ _ _ hr135_3
                        have c3_3 := cell_of_row _ _ 3 _ _ _ hr135_3
                        simp at c3_1 c3_2 c3_3
                        have fz : ∀ j, y135.frozen? ⟨y131.heap.size, j, none⟩ = false := fun j => by simp [World.frozen?, hr135_3]
                        go_upto_region 47 with fail
                        clear fz
                        clear c3_1 c3_2 c3_3
                        have hN : (((y135.setCell ⟨y131.heap.size, 1, none⟩ (.int .i64 z1)).setCell ⟨y131.heap.size, 2, none⟩ (.int .i64 z2)).setCell ⟨y131.heap.size, 3, none⟩ (.int .i64 z3)).heap[y131.heap.size]? = some (.cells #[.int .i64 z0, .int .i64 z1, .int .i64 z2, .int .i64 z3] 79 (0, 0)) := part3 hr135_3 _ _ _ rfl
                        have HUx : Below w.heap.size w (((y135.setCell ⟨y131.heap.size, 1, none⟩ (.int .i64 z1)).setCell ⟨y131.heap.size, 2, none⟩ (.int .i64 z2)).setCell ⟨y131.heap.size, 3, none⟩ (.int .i64 z3)) := below_put3o (k := y131.heap.size) HU135.out 1 (by omega) (.int .i64 z1) (.int .i64 z2) (.int .i64 z3)
                        have hPx := ((HP135.out.setFar (b := y131.heap.size) (by omega) 1 (.int .i64 z1)).setFar (b := y131.heap.size) (by omega) 2 (.int .i64 z2)).setFar (b := y131.heap.size) (by omega) 3 (.int .i64 z3)
                        have hzx : y135.heap.size ≤ (((y135.setCell ⟨y131.heap.size, 1, none⟩ (.int .i64 z1)).setCell ⟨y131.heap.size, 2, none⟩ (.int .i64 z2)).setCell ⟨y131.heap.size, 3, none⟩ (.int .i64 z3)).heap.size := by simp
                        have hO : ∀ kk, kk ≠ y131.heap.size → (((y135.setCell ⟨y131.heap.size, 1, none⟩ (.int .i64 z1)).setCell ⟨y131.heap.size, 2, none⟩ (.int .i64 z2)).setCell ⟨y131.heap.size, 3, none⟩ (.int .i64 z3)).heap[kk]? = y135.heap[kk]? := fun kk hk => put3_other _ _ _ _ _ hk
                        obtain ⟨y136, hy136⟩ : ∃ y, ((y135.setCell ⟨y131.heap.size, 1, none⟩ (.int .i64 z1)).setCell ⟨y131.heap.size, 2, none⟩ (.int .i64 z2)).setCell ⟨y131.heap.size, 3, none⟩ (.int .i64 z3) = y := ⟨_, rfl⟩
                        rw [hy136] at hN hO HUx hPx hzx ⊢
                        clear hy136
                        have HU136 := Lib.hid HUx
                        have HP136 := Lib.hid hPx
                        have hz136 := hzx
                        have hr136_0 := (hO _ (by omega)).trans hr135_0
                        have hr136_1 := (hO _ (by omega)).trans hr135_1
                        have hr136_2 := (hO _ (by omega)).trans hr135_2
                        have hr136_3 := hN
                        have HK136 := Lib.hid (fun q (h1 : b0 ≤ q) (h2 : q < b111) (h3 : q ≠ y107.heap.size) => (hO q (by omega)).trans (HK135.out q h1 h2 h3))
                        clear HK135
                        have HO136 := Lib.hid (own_via (w' := y136) HO135.out fun q hq => hO q (by have := HQ0.out q hq; omega))
                        clear HO135
                        clear hN hO HUx hPx hzx HP135
                        clear hr135_0 hr135_1 hr135_2 hr135_3 HU135
                        obtain ⟨i0, hi, hz0, hz1, hz2⟩ := info_parts dinfo_key
                        have c2_1 := cell_of_row _ _ 1 _ _ _ hr136_2
                        have c3_0 := cell_of_row _ _ 0 _ _ _ hr136_3
                        have c3_1 := cell_of_row _ _ 1 _ _ _ hr136_3
                        have c3_2 := cell_of_row _ _ 2 _ _ _ hr136_3
                        have c3_3 := cell_of_row _ _ 3 _ _ _ hr136_3
                        simp at c2_1 c3_0 c3_1 c3_2 c3_3
                        have HI := Lib.hid (HO136.out.alloc (.cells #[.int .i64 z0, .int .i64 z1, .int .i64 z2, .int .i64 z3] 79))
                        have hsm : k * 128 ≤ 1000000 := by omega
                        have hx1 : ∀ j u, ([.int .i64 z0, .int .i64 z1, .int .i64 z2, .int .i64 z3] : List Value)[j]? = some u → (y136.alloc (.cells #[.int .i64 z0, .int .i64 z1, .int .i64 z2, .int .i64 z3] 79)).cell? ((⟨y136.heap.size, 0, none⟩ : Addr).add j) = some u := by
                          intro j u hj
                          match j, hj with
                          | 0, hj => simp at hj; subst hj; simp [Addr.add]
                          | 1, hj => simp at hj; subst hj; simp [Addr.add]
                          | 2, hj => simp at hj; subst hj; simp [Addr.add]
                          | 3, hj => simp at hj; subst hj; simp [Addr.add]
                        have HX1 := Lib.hid hx1
                        clear hx1
                        have HX2 := Lib.hid (show ∀ u ∈ ([.int .i64 z0, .int .i64 z1, .int .i64 z2, .int .i64 z3] : List Value), u.oneCell' = true by intro u hu; simp only [List.mem_cons, List.not_mem_nil, or_false] at hu; rcases hu with rfl | rfl | rfl | rfl <;> rfl)
                        go_wp2_with (first | (at_builtin; refine wpList_append_own _ rfl _ _ 75 rfl b111 79 i0 (.agg #[.int .i64 0, .int .i64 0, .int .i64 0, .int .i64 0]) 4 32 Tryz.underlying75 hi hz0 hz1 hz2 rfl (by decide) _ _ _ rfl HI.out ⟨y136.heap.size, 0, none⟩ 1 1 [.int .i64 z0, .int .i64 z1, .int .i64 z2, .int .i64 z3] rfl rfl HX1.out HX2.out ?c3 ?c4 ?c5 ?_))
                        clear c2_1 c3_0 c3_1 c3_2 c3_3
                        case c3 => unfold maxLen; omega
                        case c4 => omega
                        case c5 => (first | omega | (simp; omega))
                        intro v5 y9 hin2 hgrow2 _
                        have HST := Lib.hid (show itS keyE t111 (k + 1) = t135 by show keyE (itS keyE t111 k) = _; rw [← HS0.out]; unfold keyE; rw [← HT133.out, ← HT135.out])
                        have HSTEP : flatc 4 (itV keyE keyV 4 t111) (k + 1) = flatc 4 (itV keyE keyV 4 t111) k ++ [.int .i64 z0, .int .i64 z1, .int .i64 z2, .int .i64 z3] := by
                          rw [step_key, ← HS0.out]
                          congr 1
                          simp only [List.cons.injEq, Value.int.injEq, true_and, and_true]
                          refine ⟨?_, ?_, ?_, ?_⟩
                          · show (fixS s0).1 = _; rw [Xz0.out]
                          · show (threeS (fixS s0).2).1 0 = _; rw [← HT133.out, ← Xz1.out]
                          · show (threeS (fixS s0).2).1 1 = _; rw [← HT133.out, ← Xz2.out]
                          · show (threeS (fixS s0).2).1 2 = _; rw [← HT133.out, ← Xz3.out]
                        rw [← HSTEP] at hin2
                        clear HSTEP
                        obtain ⟨fa, fc, hfv⟩ := Sc.own_form hin2
                        subst hfv
                        have hbx := Ve.below_n1 y136 (.cells #[.int .i64 z0, .int .i64 z1, .int .i64 z2, .int .i64 z3] 79)
                        have hq9 := fun q hq => (HO136.out.lt q hq).1
                        have hsx := hbx.size
                        have hr9_0 := (hgrow2.block _ (Nat.lt_of_lt_of_le (lt_heap hr136_0) hsx) (fun e => by have := hq9 _ e.symm; omega)).trans ((hbx.block _ (lt_heap hr136_0)).trans hr136_0)
                        have hr9_1 := (hgrow2.block _ (Nat.lt_of_lt_of_le (lt_heap hr136_1) hsx) (fun e => by have := hq9 _ e.symm; omega)).trans ((hbx.block _ (lt_heap hr136_1)).trans hr136_1)
                        have hr9_2 := (hgrow2.block _ (Nat.lt_of_lt_of_le (lt_heap hr136_2) hsx) (fun e => by have := hq9 _ e.symm; omega)).trans ((hbx.block _ (lt_heap hr136_2)).trans hr136_2)
                        have hU9 := (HU136.out.trans (hbx.mono HU136.out.size)).grown hgrow2 (by have := HU136.out.size; omega) (fun q hq => by have := hq9 q hq; omega)
                        have hP9 := mat_near (HP136.out.on hbx) ((Below.refl (g + 1) _).grown hgrow2 (by omega) (fun q hq => by have := hq9 q hq; omega))
                        have hs9 := hgrow2.size
                        have cS := cell_of_row _ _ 1 _ _ _ hr9_2
                        simp at cS
                        have fz : ∀ j, y9.frozen? ⟨y107.heap.size, j, none⟩ = false := fun j => by simp [World.frozen?, hr9_2]
                        go_wp2_with fail
                        clear fz cS
                        have hN : (y9.setCell ⟨y107.heap.size, 1, none⟩ (.slice fa (k + 1) fc)).heap[y107.heap.size]? = some (.cells #[.int .i64 (x0 : Int), .slice fa (k + 1) fc] 77 (0, 0)) := heap_setCell_same _ _ 1 _ _ _ hr9_2
                        have hO : ∀ kk, kk ≠ y107.heap.size → (y9.setCell ⟨y107.heap.size, 1, none⟩ (.slice fa (k + 1) fc)).heap[kk]? = y9.heap[kk]? := fun kk hk => Below.heap_setCell _ _ _ _ hk
                        have HUx : Below w.heap.size w (y9.setCell ⟨y107.heap.size, 1, none⟩ (.slice fa (k + 1) fc)) := hU9.setCell (by show w.heap.size ≤ y107.heap.size; omega) _
                        have hPx := hP9.setFar (b := y107.heap.size) (by omega) 1 (.slice fa (k + 1) fc)
                        have hr0x := (hO _ (by omega)).trans hr9_0
                        have hr1x := (hO _ (by omega)).trans hr9_1
                        have HOx := Lib.hid (own_via (w' := (y9.setCell ⟨y107.heap.size, 1, none⟩ (.slice fa (k + 1) fc))) hin2 fun q hq => hO q (by have := (hin2.lt q hq).1; omega))
                        have HKx := Lib.hid (fun q (h1 : b0 ≤ q) (h2 : q < b111) (h3 : q ≠ y107.heap.size) => (hO q (by omega)).trans ((hgrow2.block q (by omega) (fun e => by have := hq9 _ e.symm; omega)).trans ((hbx.block q (by omega)).trans (HK136.out q h1 h2 h3))))
                        go_roundw
                        case rel => exact ⟨k + 1, .slice fa (k + 1) fc, by omega, by go_num, hr0x, hr1x, hN, HOx, Lib.hid (by rw [HST.out]; exact hPx), Lib.hid HUx, by simp; omega, HKx⟩
                        case measure => simp [intOf]; omega
                      · have d1 : (te == 0) = false := by simpa using h0
                        have d2 := decide_eq_false h0
                        have hkp : itS keyE t111 nk = s0 := by rw [it_keep key_keep (k := k) (by rw [← HS0.out, ← HTE.out]; exact h0) nk hk]; exact HS0.out.symm
                        go_wp2_with fail
                        go_meet
                        exact ⟨k, vK, hk, fun h => absurd (by rw [hkp, ← HTE.out] at h; exact h) h0, hr131_0, hr131_1, hr131_2, HO, Lib.hid (by rw [hkp]; exact HP131.out), HU131, hbr, HK⟩
                    · have hkk : nk = k := by omega
                      subst hkk
                      go_wp2_with fail
                      go_meet
                      exact ⟨_, vK, hk, fun _ => rfl, hr131_0, hr131_1, hr131_2, HO, Lib.hid (by rw [← HS0.out]; exact HP131.out), HU131, hbr, HK⟩
                case rest =>
                  obtain ⟨k151, vS151, hk151, hok151, hr151_0, hr151_1, hr151_2, HO151, HP151, HU151, hbr151, HKZ⟩ := hcut
                  rename World => y151
                  have HK151 := Lib.hid (fun q (h1 : b0 ≤ q) (h2 : q < y107.heap.size) => (HKZ.out q h1 (by omega) (by omega)).trans (HK111.out q h1 h2))
                  clear HK111
                  clear HKZ
                  have hzz151 := HU151.out.size
                  obtain ⟨t151, ht151⟩ : ∃ t : St, t = itS keyE t111 nk := ⟨_, rfl⟩
                  rw [← ht151] at HP151
                  have HT151 := Lib.hid ht151
                  clear ht151
                  go_upto_region 48 with fail
                  obtain ⟨xs, hin, htk⟩ := HX.out
                  have HIN := Lib.hid (own_via (w' := y151) hin fun q hq => HK151.out q (by have := (hin.lt q hq).1; omega) (hin.lt q hq).2)
                  have HTK := Lib.hid htk
                  clear hin htk HX
                  obtain ⟨fa, fc, hfv⟩ := Sc.own_form HO151.out
                  subst hfv
                  obtain ⟨i0, hi, hz0, hz1, hz2⟩ := info_parts dinfo_track
                  have c1_14 := cell_of_row _ _ 14 _ _ _ hr151_1
                  have c2_0 := cell_of_row _ _ 0 _ _ _ hr151_2
                  have c2_1 := cell_of_row _ _ 1 _ _ _ hr151_2
                  simp at c1_14 c2_0 c2_1
                  have HI := Lib.hid (HIN.out.alloc (.cells #[.int .i64 (x0 : Int), .slice fa k151 fc] 77))
                  have hsm : k * 64 ≤ 1000000 := by omega
                  have hx1 : ∀ j u, ([.int .i64 (x0 : Int), .slice fa k151 fc] : List Value)[j]? = some u → (y151.alloc (.cells #[.int .i64 (x0 : Int), .slice fa k151 fc] 77)).cell? ((⟨y151.heap.size, 0, none⟩ : Addr).add j) = some u := by
                    intro j u hj
                    match j, hj with
                    | 0, hj => simp at hj; subst hj; simp [Addr.add]
                    | 1, hj => simp at hj; subst hj; simp [Addr.add]
                  have HX1 := Lib.hid hx1
                  clear hx1
                  have HX2 := Lib.hid (show ∀ u ∈ ([.int .i64 (x0 : Int), .slice fa k151 fc] : List Value), u.oneCell' = true by intro u hu; simp only [List.mem_cons, List.not_mem_nil, or_false] at hu; rcases hu with rfl | rfl <;> rfl)
                  go_wp2_with (first | (at_builtin; refine wpList_append_own _ rfl _ _ 45 rfl b87 77 i0 (.agg #[.int .i64 0, .slice none 0 0]) 2 32 Tryz.underlying45 hi hz0 hz1 hz2 rfl (by decide) _ _ _ rfl HI.out ⟨y151.heap.size, 0, none⟩ 1 1 [.int .i64 (x0 : Int), .slice fa k151 fc] rfl rfl HX1.out HX2.out ?c3 ?c4 ?c5 ?_))
                  clear c1_14 c2_0 c2_1
                  case c3 => unfold maxLen; omega
                  case c4 => omega
                  case c5 => (first | omega | (simp; omega))
                  intro v5 y9 hin2 hgrow2 _
                  have HST := Lib.hid (show itS trackE t87 (k + 1) = t151 by show trackE (itS trackE t87 k) = _; rw [← HS0.out]; show itS keyE (manyS (numS s0 1).2 16 23).2 (manyS (numS s0 1).2 16 23).1 = _; rw [← HT109.out, ← HT111.out, ← Xnk.out, ← HT151.out])
                  obtain ⟨ga, gc, hgv⟩ := Sc.own_form hin2
                  subst hgv
                  have hbx := Ve.below_n1 y151 (.cells #[.int .i64 (x0 : Int), .slice fa k151 fc] 77)
                  have hq9 := fun q hq => (HIN.out.lt q hq).1
                  have hsx := hbx.size
                  have hr9_0 := (hgrow2.block _ (Nat.lt_of_lt_of_le (lt_heap hr151_0) hsx) (fun e => by have := hq9 _ e.symm; omega)).trans ((hbx.block _ (lt_heap hr151_0)).trans hr151_0)
                  have hr9_1 := (hgrow2.block _ (Nat.lt_of_lt_of_le (lt_heap hr151_1) hsx) (fun e => by have := hq9 _ e.symm; omega)).trans ((hbx.block _ (lt_heap hr151_1)).trans hr151_1)
                  have hU9 := (HU151.out.trans (hbx.mono HU151.out.size)).grown hgrow2 (by have := HU151.out.size; omega) (fun q hq => by have := hq9 q hq; omega)
                  have hP9 := mat_near (HP151.out.on hbx) ((Below.refl (g + 1) _).grown hgrow2 (by omega) (fun q hq => by have := hq9 q hq; omega))
                  have hs9 := hgrow2.size
                  have HKG := Lib.hid (fun (q : Nat) (cs : Array Value) (fr : Nat × Nat) (h : y151.heap[q]? = some (.cells cs 79 fr)) => by
                    have h1 := hbx.block q (lt_of_heap h)
                    exact (keep_grown (HIN.out.alloc (.cells #[.int .i64 (x0 : Int), .slice fa k151 fc] 77)) hgrow2 (by decide) q cs fr (h1.trans h)).trans h1)
                  have cS := cell_of_row _ _ 14 _ _ _ hr9_1
                  simp at cS
                  have fz : ∀ j, y9.frozen? ⟨y20.heap.size, j, none⟩ = false := fun j => by simp [World.frozen?, hr9_1]
                  go_wp2_with fail
                  clear fz cS
                  have hN : (y9.setCell ⟨y20.heap.size, 14, none⟩ (.slice ga (k + 1) gc)).heap[y20.heap.size]? = some (.cells #[.int .i64 (a1 : Int), .int .i64 (a2 : Int), .int .i64 (a3 : Int), .int .i64 (a4 : Int), .int .i64 (a5 : Int), .int .i64 a6, .int .u64 (sd : Int), .int .i64 r1, .int .i64 r2, .int .i64 r3, .int .i64 (e1 : Int), .int .i64 (e2 : Int), .int .i64 e3, vS87, .slice ga (k + 1) gc, .slice none 0 0, .slice none 0 0] 49 (0, 0)) := heap_setCell_same _ _ 14 _ _ _ hr9_1
                  have hO : ∀ kk, kk ≠ y20.heap.size → (y9.setCell ⟨y20.heap.size, 14, none⟩ (.slice ga (k + 1) gc)).heap[kk]? = y9.heap[kk]? := fun kk hk => Below.heap_setCell _ _ _ _ hk
                  have HUx : Below w.heap.size w (y9.setCell ⟨y20.heap.size, 14, none⟩ (.slice ga (k + 1) gc)) := hU9.setCell (by show w.heap.size ≤ y20.heap.size; omega) _
                  have hPx := hP9.setFar (b := y20.heap.size) (by omega) 14 (.slice ga (k + 1) gc)
                  have hr0x := (hO _ (by omega)).trans hr9_0
                  have e1 : trackW (itS trackE t87 k) = (x0 : Int) := by rw [← HS0.out]; show ((numS s0 1).1 : Int) = _; rw [← Xx0.out]
                  have e2 : trackN (itS trackE t87 k) = nk := by rw [← HS0.out]; show (manyS (numS s0 1).2 16 23).1 = nk; rw [← HT109.out, ← Xnk.out]
                  have e3 : trackK (itS trackE t87 k) = itV keyE keyV 4 t111 := by rw [← HS0.out]; show itV keyE keyV 4 (manyS (numS s0 1).2 16 23).2 = _; rw [← HT109.out, ← HT111.out]
                  have HTR := Lib.hid (show (itS trackE t87 (k + 1)).2 = 0 → TrD b87 (y9.setCell ⟨y20.heap.size, 14, none⟩ (.slice ga (k + 1) gc)) t87 (k + 1) (xs ++ [.int .i64 (x0 : Int), .slice fa k151 fc]) from fun he => by
                    have hk2 := hok151 (by rw [HST.out, HT151.out] at he; exact he)
                    have hp := HTK.out (by rw [← HS0.out]; exact HTE.out.symm)
                    have hp2 := hp.heap (w' := (y9.setCell ⟨y20.heap.size, 14, none⟩ (.slice ga (k + 1) gc))) fun q cs fr a b => (hO q (by omega)).trans ((HKG.out q cs fr ((HK151.out q (by omega) (lt_of_heap b)).trans b)).trans (HK151.out q (by omega) (lt_of_heap b)))
                    obtain ⟨a', cap', e, lp⟩ := la_own HO151.out
                    injection e with ea en ec
                    subst ea
                    have lp2 := (lp.low (base' := b87) (by omega)).heap (w' := (y9.setCell ⟨y20.heap.size, 14, none⟩ (.slice ga (k + 1) gc))) fun q cs fr a b => (hO q (by omega)).trans (HKG.out q cs fr b)
                    rw [hk2] at lp2 ⊢
                    have := hp2.snoc (ka := fa) (kc := fc) (by rw [e2, e3]; exact lp2)
                    rw [e1, e2] at this
                    exact this)
                  have HXx := Lib.hid (show ∃ xs, (y9.setCell ⟨y20.heap.size, 14, none⟩ (.slice ga (k + 1) gc)).ownsRow b87 77 2 (.slice ga (k + 1) gc) (k + 1) xs ∧ ((itS trackE t87 (k + 1)).2 = 0 → TrD b87 (y9.setCell ⟨y20.heap.size, 14, none⟩ (.slice ga (k + 1) gc)) t87 (k + 1) xs) from ⟨_, own_via (w' := (y9.setCell ⟨y20.heap.size, 14, none⟩ (.slice ga (k + 1) gc))) hin2 fun q hq => hO q (by have := (hin2.lt q hq).1; omega), HTR.out⟩)
                  have HKx := Lib.hid (fun q (h1 : b0 ≤ q) (h2 : q < b87) => (hO q (by omega)).trans ((hgrow2.block q (by omega) (fun e => by have := hq9 _ e.symm; omega)).trans ((hbx.block q (by omega)).trans ((HK151.out q h1 (by omega)).trans (HO_.out q h1 h2)))))
                  go_roundw
                  case rel => exact ⟨k + 1, .slice ga (k + 1) gc, by omega, by go_num, hr0x, hN, HXx, Lib.hid (by rw [HST.out]; exact hPx), Lib.hid HUx, by simp; omega, HKx⟩
                  case measure => simp [intOf]; omega
              · have d1 : (te == 0) = false := by simpa using h0
                have d2 := decide_eq_false h0
                have hkp : itS trackE t87 nt = s0 := by rw [it_keep track_keep (k := k) (by rw [← HS0.out, ← HTE.out]; exact h0) nt hk]; exact HS0.out.symm
                have hkn : (itS trackE t87 nt).2 ≠ 0 := by rw [hkp, ← HTE.out]; exact h0
                go_wp2_with fail
                go_meet
                exact ⟨k, vS, hk, fun h => absurd h hkn, hr107_0, hr107_1, Lib.hid (by obtain ⟨xs, q1, q2⟩ := HX.out; exact ⟨xs, q1, fun h => absurd h hkn⟩), Lib.hid (by rw [hkp]; exact HP107.out), HU107, hbr, HK⟩
            · have hkk : nt = k := by omega
              subst hkk
              go_wp2_with fail
              go_meet
              exact ⟨_, vS, hk, fun _ => rfl, hr107_0, hr107_1, HX, Lib.hid (by rw [← HS0.out]; exact HP107.out), HU107, hbr, HK⟩
        case rest =>
          obtain ⟨k127, vS127, hk127, hok127, hr127_0, hr127_1, HX127, HP127, HU127, hbr127, HKZ⟩ := hcut
          rename World => y127
          have HO87 := Lib.hid (own_via (w' := y127) HO87.out fun q hq => HKZ.out q (by have := (HO87.out.lt q hq).1; omega) (by have := (HO87.out.lt q hq).2; omega))
          clear HKZ
          have hzz127 := HU127.out.size
          obtain ⟨t127, ht127⟩ : ∃ t : St, t = itS trackE t87 nt := ⟨_, rfl⟩
          rw [← ht127] at HP127
          have HT127 := Lib.hid ht127
          clear ht127
          have hbE127 : b0 ≤ y127.heap.size := Nat.le_trans hbw87 hbr127
          (try clear hl0_0); (try clear hz0); (try clear hb1); (try clear hs1); (try clear hl1_0); (try clear hb2); (try clear hs2); (try clear hl2_0); (try clear hz2); (try clear hz20); (try clear hz21); (try clear hb21); (try clear hs21); (try clear hl21_0); (try clear hz22); (try clear hz23); (try clear hz24); (try clear hz25); (try clear hz26); (try clear hz27)
          (try clear hz28); (try clear hz29); (try clear hz30); (try clear hz31); (try clear hz32); (try clear hz33); (try clear hz34); (try clear hz35); (try clear hz36); (try clear hz37); (try clear hz38); (try clear hz39); (try clear hz40); (try clear hz41); (try clear hz42); (try clear hz43); (try clear hz44); (try clear hz45); (try clear hz46); (try clear hz47)
          (try clear hb0); (try clear hbu47); (try clear hbv47); (try clear hlx47_0); (try clear hlx47_1); (try clear hz67); (try clear hs0); (try clear hb68); (try clear hs68); (try clear hl68_0); (try clear hl68_1); (try clear hz68); (try clear hz69); (try clear hz70); (try clear hz71); (try clear hz72); (try clear hz73); (try clear hz74); (try clear hz1); (try clear hs9)
          (try clear hbr87); (try clear hzz87); (try clear hbu87); (try clear hbv87); (try clear hlx87); (try clear hz107); (try clear hb108); (try clear hs108); (try clear hl108_0); (try clear hl108_1); (try clear hz108); (try clear hz109); (try clear hz110); (try clear hz111); (try clear hbu111); (try clear hbv111); (try clear hlx111_0); (try clear hlx111_1); (try clear hlx111_2); (try clear hz131)
          (try clear hb132); (try clear hs132); (try clear hl132_0); (try clear hl132_1); (try clear hl132_2); (try clear hz132); (try clear hz133); (try clear hz134); (try clear hz135); (try clear hz3); (try clear hz136); (try clear hbr151); (try clear hzz151); (try clear hbr127); (try clear hzz127)
          obtain ⟨b127, hbj⟩ : ∃ b, b = y127.heap.size := ⟨_, rfl⟩
          have hbu127 : b127 ≤ y127.heap.size := by omega
          have hbv127 : y127.heap.size ≤ b127 := by omega
          clear hbj
          have hbw127 : b0 ≤ b127 := by omega
          have hlx127_0 := lt_heap hr127_0
          have hlx127_1 := lt_heap hr127_1
          go_upto_block 8 with fail
          go_cut [20] (fun i wx => ∃ (k : Nat) (vS : Value), k ≤ nj ∧ ((itS jointE t127 nj).2 = 0 → k = nj) ∧ wx.heap[w.heap.size]? = some (.cells #[.int .i64 0, .int .i64 0, .int .i64 0, .int .i64 0, .int .i64 0, .int .i64 0, .int .u64 0, .int .i64 0, .int .i64 0, .int .i64 0, .int .i64 0, .int .i64 0, .int .i64 0, .slice none 0 0, .slice none 0 0, .slice none 0 0, .slice none 0 0] 49 (0, 0)) ∧ wx.heap[y20.heap.size]? = some (.cells #[.int .i64 (a1 : Int), .int .i64 (a2 : Int), .int .i64 (a3 : Int), .int .i64 (a4 : Int), .int .i64 (a5 : Int), .int .i64 a6, .int .u64 (sd : Int), .int .i64 r1, .int .i64 r2, .int .i64 r3, .int .i64 (e1 : Int), .int .i64 (e2 : Int), .int .i64 e3, vS87, vS127, vS, .slice none 0 0] 49 (0, 0)) ∧ Hid (wx.ownsRow b127 81 4 vS k (flatc 4 (itV jointE jointV 4 t127) k)) ∧ Hid (MAt g N ba bn bc l (itS jointE t127 nj) wx) ∧ Hid (Below w.heap.size w wx) ∧ b127 ≤ wx.heap.size ∧ Hid (∀ q, b0 ≤ q → q < b127 → wx.heap[q]? = y127.heap[q]?))
          case first =>
            go_upto_region 50 with fail
            go_loopw [20] (fun i wr => ∃ (k : Nat) (vS : Value), k ≤ nj ∧ i = .int .i64 k ∧ wr.heap[w.heap.size]? = some (.cells #[.int .i64 0, .int .i64 0, .int .i64 0, .int .i64 0, .int .i64 0, .int .i64 0, .int .u64 0, .int .i64 0, .int .i64 0, .int .i64 0, .int .i64 0, .int .i64 0, .int .i64 0, .slice none 0 0, .slice none 0 0, .slice none 0 0, .slice none 0 0] 49 (0, 0)) ∧ wr.heap[y20.heap.size]? = some (.cells #[.int .i64 (a1 : Int), .int .i64 (a2 : Int), .int .i64 (a3 : Int), .int .i64 (a4 : Int), .int .i64 (a5 : Int), .int .i64 a6, .int .u64 (sd : Int), .int .i64 r1, .int .i64 r2, .int .i64 r3, .int .i64 (e1 : Int), .int .i64 (e2 : Int), .int .i64 e3, vS87, vS127, vS, .slice none 0 0] 49 (0, 0)) ∧ Hid (wr.ownsRow b127 81 4 vS k (flatc 4 (itV jointE jointV 4 t127) k)) ∧ Hid (MAt g N ba bn bc l (itS jointE t127 k) wr) ∧ Hid (Below w.heap.size w wr) ∧ b127 ≤ wr.heap.size ∧ Hid (∀ q, b0 ≤ q → q < b127 → wr.heap[q]? = y127.heap[q]?)) (fun i _ => nj - (intOf i).toNat)
            case atStart => exact ⟨0, _, by omega, rfl, hr127_0, hr127_1, Lib.hid (by simpa [flatc] using World.ownsRow_nil _ _ _ _), HP127, HU127, by omega, Lib.hid fun _ _ _ => rfl⟩
            case round =>
              clear hr127_0 hr127_1 HP127 HU127
              obtain ⟨k, vS, hk, rfl, hr147_0, hr147_1, HO, HP147, HU147, hbr, HK⟩ := hrel
              obtain ⟨y147, rfl⟩ : ∃ y : World, y = wr := ⟨_, rfl⟩
              have hz147 := HU147.out.size
              obtain ⟨s0, hs0⟩ : ∃ s : St, s = itS jointE t127 k := ⟨_, rfl⟩
              rw [← hs0] at HP147
              have HS0 := Lib.hid hs0
              clear hs0
              obtain ⟨he, hf, -, -⟩ := HP147.out.err
              obtain ⟨te, hte⟩ : ∃ te, te = s0.2 := ⟨_, rfl⟩
              rw [← hte] at he
              have HTE := Lib.hid hte
              clear hte
              by_cases hlt : k < nj
              · have hlt' : (k : Int) < nj := by omega
                by_cases h0 : te = 0
                · subst h0
                  go_upto_region 53 with fail
                  have hb148 := Ve.below_n1 y147 (.cells #[.int .i64 0, .int .i64 0, .int .i64 0, .int .i64 0] 81)
                  have hN := heap_alloc_last y147 (.cells #[.int .i64 0, .int .i64 0, .int .i64 0, .int .i64 0] 81)
                  obtain ⟨y148, hy148⟩ : ∃ y, y147.alloc (.cells #[.int .i64 0, .int .i64 0, .int .i64 0, .int .i64 0] 81) = y := ⟨_, rfl⟩
                  have hs148 : y148.heap.size = y147.heap.size + 1 := by rw [← hy148]; simp
                  rw [hy148] at hb148 hN ⊢
                  clear hy148
                  have hl148_0 := lt_heap hr147_0
                  have hl148_1 := lt_heap hr147_1
                  have hr148_0 := (hb148.block _ (lt_heap hr147_0)).trans hr147_0
                  have hr148_1 := (hb148.block _ (lt_heap hr147_1)).trans hr147_1
                  have HU148 := Lib.hid (HU147.out.trans (hb148.mono HU147.out.size))
                  clear hr147_0 hr147_1 HU147
                  have hr148_2 := hN
                  clear hN
                  have HQ0 := Lib.hid (fun q hq => (HO.out.lt q hq).2)
                  replace hs148 : y147.heap.size < y148.heap.size := by omega
                  have HP148 := Lib.hid (HP147.out.on hb148)
                  clear HP147 he hf
                  have hz148 := hb148.size
                  have HO148 := Lib.hid (ownT_on (w' := y148) HO.out fun q _ h => hb148.block q h)
                  clear HO
                  have HK148 := Lib.hid (fun q (h1 : b0 ≤ q) (h2 : q < b127) => (hb148.block q (by omega)).trans (HK.out q h1 h2))
                  clear HK
                  go_wp2_with fail
                  refine (msmall_any g N ba bn bc l s0 _ HP148.out).mono ?_
                  rintro e y149 ⟨rfl, hm, ha⟩
                  have hr149_0 := (ha.block _ (lt_heap hr148_0) (lt_heap hr148_0) (by omega)).trans hr148_0
                  have hr149_1 := (ha.block _ (lt_heap hr148_1) (lt_heap hr148_1) (by omega)).trans hr148_1
                  have hr149_2 := (ha.block _ (lt_heap hr148_2) (lt_heap hr148_2) (by omega)).trans hr148_2
                  have HK149 := Lib.hid (fun q (h1 : b0 ≤ q) (h2 : q < b127) => (ha.block q (by omega) (by omega) (by omega)).trans (HK148.out q h1 h2))
                  clear HK148
                  have HO149 := Lib.hid (own_via (w' := y149) HO148.out fun q hq => ha.block q (HO148.out.lt q hq).2 (HO148.out.lt q hq).2 (by have := (HO148.out.lt q hq).1; omega))
                  clear HO148
                  have hz149 := ha.size
                  have HU149 := Lib.hid (HU148.out.trans (ha.below (by omega) (by omega) (by omega)))
                  obtain ⟨t149, ht149⟩ : ∃ t : St, t = (numS s0 2).2 := ⟨_, rfl⟩
                  rw [← ht149] at hm
                  have HT149 := Lib.hid ht149
                  have HP149 := Lib.hid hm
                  clear hm ha ht149 HP148
                  clear hr148_0 hr148_1 hr148_2 HU148
                  obtain ⟨x0, hx0⟩ : ∃ v, v = small16 (numS s0 2).1 := ⟨_, rfl⟩
                  rw [← hx0]
                  have Xx0 := Lib.hid hx0
                  clear hx0
                  have c2_0 := cell_of_row _ _ 0 _ _ _ hr149_2
                  simp at c2_0
                  have fz : ∀ j, y149.frozen? ⟨y147.heap.size, j, none⟩ = false := fun j => by simp [World.frozen?, hr149_2]
                  go_upto_region 54 with fail
                  clear fz
                  clear c2_0
                  have hN : (y149.setCell ⟨y147.heap.size, 0, none⟩ (.int .i64 x0)).heap[y147.heap.size]? = some (.cells #[.int .i64 x0, .int .i64 0, .int .i64 0, .int .i64 0] 81 (0, 0)) := heap_setCell_same _ _ 0 _ _ _ hr149_2
                  have hO : ∀ kk, kk ≠ y147.heap.size → (y149.setCell ⟨y147.heap.size, 0, none⟩ (.int .i64 x0)).heap[kk]? = y149.heap[kk]? := fun kk hk => Below.heap_setCell _ _ _ _ hk
                  have HUx : Below w.heap.size w (y149.setCell ⟨y147.heap.size, 0, none⟩ (.int .i64 x0)) := HU149.out.setCell (by show w.heap.size ≤ y147.heap.size; omega) _
                  have hPx := HP149.out.setFar (b := y147.heap.size) (by omega) 0 (.int .i64 x0)
                  have hzx : y149.heap.size ≤ (y149.setCell ⟨y147.heap.size, 0, none⟩ (.int .i64 x0)).heap.size := by simp
                  obtain ⟨y150, hy150⟩ : ∃ y, y149.setCell ⟨y147.heap.size, 0, none⟩ (.int .i64 x0) = y := ⟨_, rfl⟩
                  rw [hy150] at hN hO HUx hPx hzx ⊢
                  clear hy150
                  have HU150 := Lib.hid HUx
                  have HP150 := Lib.hid hPx
                  have hz150 := hzx
                  have hr150_0 := (hO _ (by omega)).trans hr149_0
                  have hr150_1 := (hO _ (by omega)).trans hr149_1
                  have hr150_2 := hN
                  have HK150 := Lib.hid (fun q (h1 : b0 ≤ q) (h2 : q < b127) => (hO q (by omega)).trans (HK149.out q h1 h2))
                  clear HK149
                  have HO150 := Lib.hid (own_via (w' := y150) HO149.out fun q hq => hO q (by have := HQ0.out q hq; omega))
                  clear HO149
                  clear hN hO HUx hPx hzx HP149
                  clear hr149_0 hr149_1 hr149_2 HU149
                  go_wp2_with fail
                  refine (msmall_any g N ba bn bc l t149 _ HP150.out).mono ?_
                  rintro e y151 ⟨rfl, hm, ha⟩
                  have hr151_0 := (ha.block _ (lt_heap hr150_0) (lt_heap hr150_0) (by omega)).trans hr150_0
                  have hr151_1 := (ha.block _ (lt_heap hr150_1) (lt_heap hr150_1) (by omega)).trans hr150_1
                  have hr151_2 := (ha.block _ (lt_heap hr150_2) (lt_heap hr150_2) (by omega)).trans hr150_2
                  have HK151 := Lib.hid (fun q (h1 : b0 ≤ q) (h2 : q < b127) => (ha.block q (by omega) (by omega) (by omega)).trans (HK150.out q h1 h2))
                  clear HK150
                  have HO151 := Lib.hid (own_via (w' := y151) HO150.out fun q hq => ha.block q (HO150.out.lt q hq).2 (HO150.out.lt q hq).2 (by have := (HO150.out.lt q hq).1; omega))
                  clear HO150
                  have hz151 := ha.size
                  have HU151 := Lib.hid (HU150.out.trans (ha.below (by omega) (by omega) (by omega)))
                  obtain ⟨t151, ht151⟩ : ∃ t : St, t = (numS t149 2).2 := ⟨_, rfl⟩
                  rw [← ht151] at hm
                  have HT151 := Lib.hid ht151
                  have HP151 := Lib.hid hm
                  clear hm ha ht151 HP150
                  clear hr150_0 hr150_1 hr150_2 HU150
                  obtain ⟨x1, hx1⟩ : ∃ v, v = small16 (numS t149 2).1 := ⟨_, rfl⟩
                  rw [← hx1]
                  have Xx1 := Lib.hid hx1
                  clear hx1
                  have c2_1 := cell_of_row _ _ 1 _ _ _ hr151_2
                  simp at c2_1
                  have fz : ∀ j, y151.frozen? ⟨y147.heap.size, j, none⟩ = false := fun j => by simp [World.frozen?, hr151_2]
                  go_upto_region 55 with fail
                  clear fz
                  clear c2_1
                  have hN : (y151.setCell ⟨y147.heap.size, 1, none⟩ (.int .i64 x1)).heap[y147.heap.size]? = some (.cells #[.int .i64 x0, .int .i64 x1, .int .i64 0, .int .i64 0] 81 (0, 0)) := heap_setCell_same _ _ 1 _ _ _ hr151_2
                  have hO : ∀ kk, kk ≠ y147.heap.size → (y151.setCell ⟨y147.heap.size, 1, none⟩ (.int .i64 x1)).heap[kk]? = y151.heap[kk]? := fun kk hk => Below.heap_setCell _ _ _ _ hk
                  have HUx : Below w.heap.size w (y151.setCell ⟨y147.heap.size, 1, none⟩ (.int .i64 x1)) := HU151.out.setCell (by show w.heap.size ≤ y147.heap.size; omega) _
                  have hPx := HP151.out.setFar (b := y147.heap.size) (by omega) 1 (.int .i64 x1)
                  have hzx : y151.heap.size ≤ (y151.setCell ⟨y147.heap.size, 1, none⟩ (.int .i64 x1)).heap.size := by simp
                  obtain ⟨y152, hy152⟩ : ∃ y, y151.setCell ⟨y147.heap.size, 1, none⟩ (.int .i64 x1) = y := ⟨_, rfl⟩
                  rw [hy152] at hN hO HUx hPx hzx ⊢
                  clear hy152
                  have HU152 := Lib.hid HUx
                  have HP152 := Lib.hid hPx
                  have hz152 := hzx
                  have hr152_0 := (hO _ (by omega)).trans hr151_0
                  have hr152_1 := (hO _ (by omega)).trans hr151_1
                  have hr152_2 := hN
                  have HK152 := Lib.hid (fun q (h1 : b0 ≤ q) (h2 : q < b127) => (hO q (by omega)).trans (HK151.out q h1 h2))
                  clear HK151
                  have HO152 := Lib.hid (own_via (w' := y152) HO151.out fun q hq => hO q (by have := HQ0.out q hq; omega))
                  clear HO151
                  clear hN hO HUx hPx hzx HP151
                  clear hr151_0 hr151_1 hr151_2 HU151
                  go_wp2_with fail
                  refine (msmall_any g N ba bn bc l t151 _ HP152.out).mono ?_
                  rintro e y153 ⟨rfl, hm, ha⟩
                  have hr153_0 := (ha.block _ (lt_heap hr152_0) (lt_heap hr152_0) (by omega)).trans hr152_0
                  have hr153_1 := (ha.block _ (lt_heap hr152_1) (lt_heap hr152_1) (by omega)).trans hr152_1
                  have hr153_2 := (ha.block _ (lt_heap hr152_2) (lt_heap hr152_2) (by omega)).trans hr152_2
                  have HK153 := Lib.hid (fun q (h1 : b0 ≤ q) (h2 : q < b127) => (ha.block q (by omega) (by omega) (by omega)).trans (HK152.out q h1 h2))
                  clear HK152
                  have HO153 := Lib.hid (own_via (w' := y153) HO152.out fun q hq => ha.block q (HO152.out.lt q hq).2 (HO152.out.lt q hq).2 (by have := (HO152.out.lt q hq).1; omega))
                  clear HO152
                  have hz153 := ha.size
                  have HU153 := Lib.hid (HU152.out.trans (ha.below (by omega) (by omega) (by omega)))
                  obtain ⟨t153, ht153⟩ : ∃ t : St, t = (numS t151 2).2 := ⟨_, rfl⟩
                  rw [← ht153] at hm
                  have HT153 := Lib.hid ht153
                  have HP153 := Lib.hid hm
                  clear hm ha ht153 HP152
                  clear hr152_0 hr152_1 hr152_2 HU152
                  obtain ⟨x2, hx2⟩ : ∃ v, v = small16 (numS t151 2).1 := ⟨_, rfl⟩
                  rw [← hx2]
                  have Xx2 := Lib.hid hx2
                  clear hx2
                  have c2_2 := cell_of_row _ _ 2 _ _ _ hr153_2
                  simp at c2_2
                  have fz : ∀ j, y153.frozen? ⟨y147.heap.size, j, none⟩ = false := fun j => by simp [World.frozen?, hr153_2]
                  go_upto_region 56 with fail
                  clear fz
                  clear c2_2
                  have hN : (y153.setCell ⟨y147.heap.size, 2, none⟩ (.int .i64 x2)).heap[y147.heap.size]? = some (.cells #[.int .i64 x0, .int .i64 x1, .int .i64 x2, .int .i64 0] 81 (0, 0)) := heap_setCell_same _ _ 2 _ _ _ hr153_2
                  have hO : ∀ kk, kk ≠ y147.heap.size → (y153.setCell ⟨y147.heap.size, 2, none⟩ (.int .i64 x2)).heap[kk]? = y153.heap[kk]? := fun kk hk => Below.heap_setCell _ _ _ _ hk
                  have HUx : Below w.heap.size w (y153.setCell ⟨y147.heap.size, 2, none⟩ (.int .i64 x2)) := HU153.out.setCell (by show w.heap.size ≤ y147.heap.size; omega) _
                  have hPx := HP153.out.setFar (b := y147.heap.size) (by omega) 2 (.int .i64 x2)
                  have hzx : y153.heap.size ≤ (y153.setCell ⟨y147.heap.size, 2, none⟩ (.int .i64 x2)).heap.size := by simp
                  obtain ⟨y154, hy154⟩ : ∃ y, y153.setCell ⟨y147.heap.size, 2, none⟩ (.int .i64 x2) = y := ⟨_, rfl⟩
                  rw [hy154] at hN hO HUx hPx hzx ⊢
                  clear hy154
                  have HU154 := Lib.hid HUx
                  have HP154 := Lib.hid hPx
                  have hz154 := hzx
                  have hr154_0 := (hO _ (by omega)).trans hr153_0
                  have hr154_1 := (hO _ (by omega)).trans hr153_1
                  have hr154_2 := hN
                  have HK154 := Lib.hid (fun q (h1 : b0 ≤ q) (h2 : q < b127) => (hO q (by omega)).trans (HK153.out q h1 h2))
                  clear HK153
                  have HO154 := Lib.hid (own_via (w' := y154) HO153.out fun q hq => hO q (by have := HQ0.out q hq; omega))
                  clear HO153
                  clear hN hO HUx hPx hzx HP153
                  clear hr153_0 hr153_1 hr153_2 HU153
                  go_wp2_with fail
                  refine (mfix_any g N ba bn bc l t153 _ HP154.out).mono ?_
                  rintro e y155 ⟨rfl, hm, ha⟩
                  have hr155_0 := (ha.block _ (lt_heap hr154_0) (lt_heap hr154_0) (by omega)).trans hr154_0
                  have hr155_1 := (ha.block _ (lt_heap hr154_1) (lt_heap hr154_1) (by omega)).trans hr154_1
                  have hr155_2 := (ha.block _ (lt_heap hr154_2) (lt_heap hr154_2) (by omega)).trans hr154_2
                  have HK155 := Lib.hid (fun q (h1 : b0 ≤ q) (h2 : q < b127) => (ha.block q (by omega) (by omega) (by omega)).trans (HK154.out q h1 h2))
                  clear HK154
                  have HO155 := Lib.hid (own_via (w' := y155) HO154.out fun q hq => ha.block q (HO154.out.lt q hq).2 (HO154.out.lt q hq).2 (by have := (HO154.out.lt q hq).1; omega))
                  clear HO154
                  have hz155 := ha.size
                  have HU155 := Lib.hid (HU154.out.trans (ha.below (by omega) (by omega) (by omega)))
                  obtain ⟨t155, ht155⟩ : ∃ t : St, t = (fixS t153).2 := ⟨_, rfl⟩
                  rw [← ht155] at hm
                  have HT155 := Lib.hid ht155
                  have HP155 := Lib.hid hm
                  clear hm ha ht155 HP154
                  clear hr154_0 hr154_1 hr154_2 HU154
                  obtain ⟨x3, hx3⟩ : ∃ v, v = (fixS t153).1 := ⟨_, rfl⟩
                  rw [← hx3]
                  have Xx3 := Lib.hid hx3
                  clear hx3
                  have c2_3 := cell_of_row _ _ 3 _ _ _ hr155_2
                  simp at c2_3
                  have fz : ∀ j, y155.frozen? ⟨y147.heap.size, j, none⟩ = false := fun j => by simp [World.frozen?, hr155_2]
                  go_upto_region 57 with fail
                  clear fz
                  clear c2_3
                  have hN : (y155.setCell ⟨y147.heap.size, 3, none⟩ (.int .i64 x3)).heap[y147.heap.size]? = some (.cells #[.int .i64 x0, .int .i64 x1, .int .i64 x2, .int .i64 x3] 81 (0, 0)) := heap_setCell_same _ _ 3 _ _ _ hr155_2
                  have hO : ∀ kk, kk ≠ y147.heap.size → (y155.setCell ⟨y147.heap.size, 3, none⟩ (.int .i64 x3)).heap[kk]? = y155.heap[kk]? := fun kk hk => Below.heap_setCell _ _ _ _ hk
                  have HUx : Below w.heap.size w (y155.setCell ⟨y147.heap.size, 3, none⟩ (.int .i64 x3)) := HU155.out.setCell (by show w.heap.size ≤ y147.heap.size; omega) _
                  have hPx := HP155.out.setFar (b := y147.heap.size) (by omega) 3 (.int .i64 x3)
                  have hzx : y155.heap.size ≤ (y155.setCell ⟨y147.heap.size, 3, none⟩ (.int .i64 x3)).heap.size := by simp
                  obtain ⟨y156, hy156⟩ : ∃ y, y155.setCell ⟨y147.heap.size, 3, none⟩ (.int .i64 x3) = y := ⟨_, rfl⟩
                  rw [hy156] at hN hO HUx hPx hzx ⊢
                  clear hy156
                  have HU156 := Lib.hid HUx
                  have HP156 := Lib.hid hPx
                  have hz156 := hzx
                  have hr156_0 := (hO _ (by omega)).trans hr155_0
                  have hr156_1 := (hO _ (by omega)).trans hr155_1
                  have hr156_2 := hN
                  have HK156 := Lib.hid (fun q (h1 : b0 ≤ q) (h2 : q < b127) => (hO q (by omega)).trans (HK155.out q h1 h2))
                  clear HK155
                  have HO156 := Lib.hid (own_via (w' := y156) HO155.out fun q hq => hO q (by have := HQ0.out q hq; omega))
                  clear HO155
                  clear hN hO HUx hPx hzx HP155
                  clear hr155_0 hr155_1 hr155_2 HU155
                  obtain ⟨i0, hi, hz0, hz1, hz2⟩ := info_parts dinfo_joint
                  have c1_15 := cell_of_row _ _ 15 _ _ _ hr156_1
                  have c2_0 := cell_of_row _ _ 0 _ _ _ hr156_2
                  have c2_1 := cell_of_row _ _ 1 _ _ _ hr156_2
                  have c2_2 := cell_of_row _ _ 2 _ _ _ hr156_2
                  have c2_3 := cell_of_row _ _ 3 _ _ _ hr156_2
                  simp at c1_15 c2_0 c2_1 c2_2 c2_3
                  have HI := Lib.hid (HO156.out.alloc (.cells #[.int .i64 x0, .int .i64 x1, .int .i64 x2, .int .i64 x3] 81))
                  have hsm : k * 128 ≤ 1000000 := by omega
                  have hx1 : ∀ j u, ([.int .i64 x0, .int .i64 x1, .int .i64 x2, .int .i64 x3] : List Value)[j]? = some u → (y156.alloc (.cells #[.int .i64 x0, .int .i64 x1, .int .i64 x2, .int .i64 x3] 81)).cell? ((⟨y156.heap.size, 0, none⟩ : Addr).add j) = some u := by
                    intro j u hj
                    match j, hj with
                    | 0, hj => simp at hj; subst hj; simp [Addr.add]
                    | 1, hj => simp at hj; subst hj; simp [Addr.add]
                    | 2, hj => simp at hj; subst hj; simp [Addr.add]
                    | 3, hj => simp at hj; subst hj; simp [Addr.add]
                  have HX1 := Lib.hid hx1
                  clear hx1
                  have HX2 := Lib.hid (show ∀ u ∈ ([.int .i64 x0, .int .i64 x1, .int .i64 x2, .int .i64 x3] : List Value), u.oneCell' = true by intro u hu; simp only [List.mem_cons, List.not_mem_nil, or_false] at hu; rcases hu with rfl | rfl | rfl | rfl <;> rfl)
                  go_wp2_with (first | (at_builtin; refine wpList_append_own _ rfl _ _ 46 rfl b127 81 i0 (.agg #[.int .i64 0, .int .i64 0, .int .i64 0, .int .i64 0]) 4 32 Tryz.underlying46 hi hz0 hz1 hz2 rfl (by decide) _ _ _ rfl HI.out ⟨y156.heap.size, 0, none⟩ 1 1 [.int .i64 x0, .int .i64 x1, .int .i64 x2, .int .i64 x3] rfl rfl HX1.out HX2.out ?c3 ?c4 ?c5 ?_))
                  clear c1_15 c2_0 c2_1 c2_2 c2_3
                  case c3 => unfold maxLen; omega
                  case c4 => omega
                  case c5 => (first | omega | (simp; omega))
                  intro v5 y9 hin2 hgrow2 _
                  have HST := Lib.hid (show itS jointE t127 (k + 1) = t155 by show jointE (itS jointE t127 k) = _; rw [← HS0.out]; unfold jointE; rw [← HT149.out, ← HT151.out, ← HT153.out, ← HT155.out])
                  have HSTEP : flatc 4 (itV jointE jointV 4 t127) (k + 1) = flatc 4 (itV jointE jointV 4 t127) k ++ [.int .i64 x0, .int .i64 x1, .int .i64 x2, .int .i64 x3] := by
                    rw [step_joint, ← HS0.out]
                    congr 1
                    simp only [List.cons.injEq, Value.int.injEq, true_and, and_true]
                    refine ⟨?_, ?_, ?_, ?_⟩
                    · show small16 (numS s0 2).1 = _; rw [← Xx0.out]
                    · show small16 (numS (numS s0 2).2 2).1 = _; rw [← HT149.out, ← Xx1.out]
                    · show small16 (numS (numS (numS s0 2).2 2).2 2).1 = _; rw [← HT149.out, ← HT151.out, ← Xx2.out]
                    · show (fixS (numS (numS (numS s0 2).2 2).2 2).2).1 = _; rw [← HT149.out, ← HT151.out, ← HT153.out, ← Xx3.out]
                  rw [← HSTEP] at hin2
                  clear HSTEP
                  obtain ⟨fa, fc, hfv⟩ := Sc.own_form hin2
                  subst hfv
                  have hbx := Ve.below_n1 y156 (.cells #[.int .i64 x0, .int .i64 x1, .int .i64 x2, .int .i64 x3] 81)
                  have hq9 := fun q hq => (HO156.out.lt q hq).1
                  have hsx := hbx.size
                  have hr9_0 := (hgrow2.block _ (Nat.lt_of_lt_of_le (lt_heap hr156_0) hsx) (fun e => by have := hq9 _ e.symm; omega)).trans ((hbx.block _ (lt_heap hr156_0)).trans hr156_0)
                  have hr9_1 := (hgrow2.block _ (Nat.lt_of_lt_of_le (lt_heap hr156_1) hsx) (fun e => by have := hq9 _ e.symm; omega)).trans ((hbx.block _ (lt_heap hr156_1)).trans hr156_1)
                  have hU9 := (HU156.out.trans (hbx.mono HU156.out.size)).grown hgrow2 (by have := HU156.out.size; omega) (fun q hq => by have := hq9 q hq; omega)
                  have hP9 := mat_near (HP156.out.on hbx) ((Below.refl (g + 1) _).grown hgrow2 (by omega) (fun q hq => by have := hq9 q hq; omega))
                  have hs9 := hgrow2.size
                  have cS := cell_of_row _ _ 15 _ _ _ hr9_1
                  simp at cS
                  have fz : ∀ j, y9.frozen? ⟨y20.heap.size, j, none⟩ = false := fun j => by simp [World.frozen?, hr9_1]
                  go_wp2_with fail
                  clear fz cS
                  have hN : (y9.setCell ⟨y20.heap.size, 15, none⟩ (.slice fa (k + 1) fc)).heap[y20.heap.size]? = some (.cells #[.int .i64 (a1 : Int), .int .i64 (a2 : Int), .int .i64 (a3 : Int), .int .i64 (a4 : Int), .int .i64 (a5 : Int), .int .i64 a6, .int .u64 (sd : Int), .int .i64 r1, .int .i64 r2, .int .i64 r3, .int .i64 (e1 : Int), .int .i64 (e2 : Int), .int .i64 e3, vS87, vS127, .slice fa (k + 1) fc, .slice none 0 0] 49 (0, 0)) := heap_setCell_same _ _ 15 _ _ _ hr9_1
                  have hO : ∀ kk, kk ≠ y20.heap.size → (y9.setCell ⟨y20.heap.size, 15, none⟩ (.slice fa (k + 1) fc)).heap[kk]? = y9.heap[kk]? := fun kk hk => Below.heap_setCell _ _ _ _ hk
                  have HUx : Below w.heap.size w (y9.setCell ⟨y20.heap.size, 15, none⟩ (.slice fa (k + 1) fc)) := hU9.setCell (by show w.heap.size ≤ y20.heap.size; omega) _
                  have hPx := hP9.setFar (b := y20.heap.size) (by omega) 15 (.slice fa (k + 1) fc)
                  have hr0x := (hO _ (by omega)).trans hr9_0
                  have HOx := Lib.hid (own_via (w' := (y9.setCell ⟨y20.heap.size, 15, none⟩ (.slice fa (k + 1) fc))) hin2 fun q hq => hO q (by have := (hin2.lt q hq).1; omega))
                  have HKx := Lib.hid (fun q (h1 : b0 ≤ q) (h2 : q < b127) => (hO q (by omega)).trans ((hgrow2.block q (by omega) (fun e => by have := hq9 _ e.symm; omega)).trans ((hbx.block q (by omega)).trans (HK156.out q h1 h2))))
                  go_roundw
                  case rel => exact ⟨k + 1, .slice fa (k + 1) fc, by omega, by go_num, hr0x, hN, HOx, Lib.hid (by rw [HST.out]; exact hPx), Lib.hid HUx, by simp; omega, HKx⟩
                  case measure => simp [intOf]; omega
                · have d1 : (te == 0) = false := by simpa using h0
                  have d2 := decide_eq_false h0
                  have hkp : itS jointE t127 nj = s0 := by rw [it_keep joint_keep (k := k) (by rw [← HS0.out, ← HTE.out]; exact h0) nj hk]; exact HS0.out.symm
                  go_wp2_with fail
                  go_meet
                  exact ⟨k, vS, hk, fun h => absurd (by rw [hkp, ← HTE.out] at h; exact h) h0, hr147_0, hr147_1, HO, Lib.hid (by rw [hkp]; exact HP147.out), HU147, hbr, HK⟩
              · have hkk : nj = k := by omega
                subst hkk
                go_wp2_with fail
                go_meet
                exact ⟨_, vS, hk, fun _ => rfl, hr147_0, hr147_1, HO, Lib.hid (by rw [← HS0.out]; exact HP147.out), HU147, hbr, HK⟩
          case rest =>
            obtain ⟨k167, vS167, hk167, hok167, hr167_0, hr167_1, HO167, HP167, HU167, hbr167, HKZ⟩ := hcut
            rename World => y167
            have HO87 := Lib.hid (own_via (w' := y167) HO87.out fun q hq => HKZ.out q (by have := (HO87.out.lt q hq).1; omega) (by have := (HO87.out.lt q hq).2; omega))
            have HX127 := Lib.hid (show ∃ xs, y167.ownsRow b87 77 2 vS127 k127 xs ∧ ((itS trackE t87 nt).2 = 0 → TrD b87 y167 t87 k127 xs) from by
              obtain ⟨xs, q1, q2⟩ := HX127.out
              exact ⟨xs, own_via q1 fun q hq => HKZ.out q (by have := (q1.lt q hq).1; omega) (by have := (q1.lt q hq).2; omega), fun e => (q2 e).heap fun q cs fr a b => HKZ.out q (by omega) (by have := lt_of_heap b; omega)⟩)
            clear HKZ
            have hzz167 := HU167.out.size
            obtain ⟨t167, ht167⟩ : ∃ t : St, t = itS jointE t127 nj := ⟨_, rfl⟩
            rw [← ht167] at HP167
            have HT167 := Lib.hid ht167
            clear ht167
            have hbE167 : b0 ≤ y167.heap.size := Nat.le_trans hbw127 hbr167
            (try clear hl0_0); (try clear hz0); (try clear hb1); (try clear hs1); (try clear hl1_0); (try clear hb2); (try clear hs2); (try clear hl2_0); (try clear hz2); (try clear hz20); (try clear hz21); (try clear hb21); (try clear hs21); (try clear hl21_0); (try clear hz22); (try clear hz23); (try clear hz24); (try clear hz25); (try clear hz26); (try clear hz27)
            (try clear hz28); (try clear hz29); (try clear hz30); (try clear hz31); (try clear hz32); (try clear hz33); (try clear hz34); (try clear hz35); (try clear hz36); (try clear hz37); (try clear hz38); (try clear hz39); (try clear hz40); (try clear hz41); (try clear hz42); (try clear hz43); (try clear hz44); (try clear hz45); (try clear hz46); (try clear hz47)
            (try clear hb0); (try clear hbu47); (try clear hbv47); (try clear hlx47_0); (try clear hlx47_1); (try clear hz67); (try clear hs0); (try clear hb68); (try clear hs68); (try clear hl68_0); (try clear hl68_1); (try clear hz68); (try clear hz69); (try clear hz70); (try clear hz71); (try clear hz72); (try clear hz73); (try clear hz74); (try clear hz1); (try clear hs9)
            (try clear hbr87); (try clear hzz87); (try clear hbu87); (try clear hbv87); (try clear hlx87); (try clear hz107); (try clear hb108); (try clear hs108); (try clear hl108_0); (try clear hl108_1); (try clear hz108); (try clear hz109); (try clear hz110); (try clear hz111); (try clear hbu111); (try clear hbv111); (try clear hlx111_0); (try clear hlx111_1); (try clear hlx111_2); (try clear hz131)
            (try clear hb132); (try clear hs132); (try clear hl132_0); (try clear hl132_1); (try clear hl132_2); (try clear hz132); (try clear hz133); (try clear hz134); (try clear hz135); (try clear hz3); (try clear hz136); (try clear hbr151); (try clear hzz151); (try clear hbr127); (try clear hzz127); (try clear hbu127); (try clear hbv127); (try clear hlx127_0); (try clear hlx127_1); (try clear hz147)
            (try clear hb148); (try clear hs148); (try clear hl148_0); (try clear hl148_1); (try clear hz148); (try clear hz149); (try clear hz150); (try clear hz151); (try clear hz152); (try clear hz153); (try clear hz154); (try clear hz155); (try clear hz156); (try clear hbr167); (try clear hzz167)
            obtain ⟨b167, hbj⟩ : ∃ b, b = y167.heap.size := ⟨_, rfl⟩
            have hbu167 : b167 ≤ y167.heap.size := by omega
            have hbv167 : y167.heap.size ≤ b167 := by omega
            clear hbj
            have hbw167 : b0 ≤ b167 := by omega
            have hlx167_0 := lt_heap hr167_0
            have hlx167_1 := lt_heap hr167_1
            go_upto_block 10 with fail
            go_cut [22] (fun i wx => ∃ (k : Nat) (vS : Value), k ≤ ns ∧ ((itS shapeE t167 ns).2 = 0 → k = ns) ∧ wx.heap[w.heap.size]? = some (.cells #[.int .i64 0, .int .i64 0, .int .i64 0, .int .i64 0, .int .i64 0, .int .i64 0, .int .u64 0, .int .i64 0, .int .i64 0, .int .i64 0, .int .i64 0, .int .i64 0, .int .i64 0, .slice none 0 0, .slice none 0 0, .slice none 0 0, .slice none 0 0] 49 (0, 0)) ∧ wx.heap[y20.heap.size]? = some (.cells #[.int .i64 (a1 : Int), .int .i64 (a2 : Int), .int .i64 (a3 : Int), .int .i64 (a4 : Int), .int .i64 (a5 : Int), .int .i64 a6, .int .u64 (sd : Int), .int .i64 r1, .int .i64 r2, .int .i64 r3, .int .i64 (e1 : Int), .int .i64 (e2 : Int), .int .i64 e3, vS87, vS127, vS167, vS] 49 (0, 0)) ∧ Hid (wx.ownsRow b167 85 13 vS k (flatc 13 (itV shapeE shapeV 13 t167) k)) ∧ Hid (MAt g N ba bn bc l (itS shapeE t167 ns) wx) ∧ Hid (Below w.heap.size w wx) ∧ b167 ≤ wx.heap.size ∧ Hid (∀ q, b0 ≤ q → q < b167 → wx.heap[q]? = y167.heap[q]?))
            case first =>
              go_upto_region 59 with fail
              go_loopw [22] (fun i wr => ∃ (k : Nat) (vS : Value), k ≤ ns ∧ i = .int .i64 k ∧ wr.heap[w.heap.size]? = some (.cells #[.int .i64 0, .int .i64 0, .int .i64 0, .int .i64 0, .int .i64 0, .int .i64 0, .int .u64 0, .int .i64 0, .int .i64 0, .int .i64 0, .int .i64 0, .int .i64 0, .int .i64 0, .slice none 0 0, .slice none 0 0, .slice none 0 0, .slice none 0 0] 49 (0, 0)) ∧ wr.heap[y20.heap.size]? = some (.cells #[.int .i64 (a1 : Int), .int .i64 (a2 : Int), .int .i64 (a3 : Int), .int .i64 (a4 : Int), .int .i64 (a5 : Int), .int .i64 a6, .int .u64 (sd : Int), .int .i64 r1, .int .i64 r2, .int .i64 r3, .int .i64 (e1 : Int), .int .i64 (e2 : Int), .int .i64 e3, vS87, vS127, vS167, vS] 49 (0, 0)) ∧ Hid (wr.ownsRow b167 85 13 vS k (flatc 13 (itV shapeE shapeV 13 t167) k)) ∧ Hid (MAt g N ba bn bc l (itS shapeE t167 k) wr) ∧ Hid (Below w.heap.size w wr) ∧ b167 ≤ wr.heap.size ∧ Hid (∀ q, b0 ≤ q → q < b167 → wr.heap[q]? = y167.heap[q]?)) (fun i _ => ns - (intOf i).toNat)
              case atStart => exact ⟨0, _, by omega, rfl, hr167_0, hr167_1, Lib.hid (by simpa [flatc] using World.ownsRow_nil _ _ _ _), HP167, HU167, by omega, Lib.hid fun _ _ _ => rfl⟩
              case round =>
                clear hr167_0 hr167_1 HP167 HU167
                obtain ⟨k, vS, hk, rfl, hr187_0, hr187_1, HO, HP187, HU187, hbr, HK⟩ := hrel
                obtain ⟨y187, rfl⟩ : ∃ y : World, y = wr := ⟨_, rfl⟩
                have hz187 := HU187.out.size
                obtain ⟨s0, hs0⟩ : ∃ s : St, s = itS shapeE t167 k := ⟨_, rfl⟩
                rw [← hs0] at HP187
                have HS0 := Lib.hid hs0
                clear hs0
                obtain ⟨he, hf, -, -⟩ := HP187.out.err
                obtain ⟨te, hte⟩ : ∃ te, te = s0.2 := ⟨_, rfl⟩
                rw [← hte] at he
                have HTE := Lib.hid hte
                clear hte
                by_cases hlt : k < ns
                · have hlt' : (k : Int) < ns := by omega
                  by_cases h0 : te = 0
                  · subst h0
                    go_upto_region 62 with fail
                    have hb188 := Ve.below_n1 y187 (.cells #[.int .i64 0, .int .i64 0, .int .i64 0, .int .i64 0, .int .i64 0, .int .i64 0, .int .i64 0, .int .i64 0, .int .i64 0, .int .i64 0, .int .i64 0, .int .i64 0, .int .i64 0] 85)
                    have hN := heap_alloc_last y187 (.cells #[.int .i64 0, .int .i64 0, .int .i64 0, .int .i64 0, .int .i64 0, .int .i64 0, .int .i64 0, .int .i64 0, .int .i64 0, .int .i64 0, .int .i64 0, .int .i64 0, .int .i64 0] 85)
                    obtain ⟨y188, hy188⟩ : ∃ y, y187.alloc (.cells #[.int .i64 0, .int .i64 0, .int .i64 0, .int .i64 0, .int .i64 0, .int .i64 0, .int .i64 0, .int .i64 0, .int .i64 0, .int .i64 0, .int .i64 0, .int .i64 0, .int .i64 0] 85) = y := ⟨_, rfl⟩
                    have hs188 : y188.heap.size = y187.heap.size + 1 := by rw [← hy188]; simp
                    rw [hy188] at hb188 hN ⊢
                    clear hy188
                    have hl188_0 := lt_heap hr187_0
                    have hl188_1 := lt_heap hr187_1
                    have hr188_0 := (hb188.block _ (lt_heap hr187_0)).trans hr187_0
                    have hr188_1 := (hb188.block _ (lt_heap hr187_1)).trans hr187_1
                    have HU188 := Lib.hid (HU187.out.trans (hb188.mono HU187.out.size))
                    clear hr187_0 hr187_1 HU187
                    have hr188_2 := hN
                    clear hN
                    have HQ0 := Lib.hid (fun q hq => (HO.out.lt q hq).2)
                    replace hs188 : y187.heap.size < y188.heap.size := by omega
                    have HP188 := Lib.hid (HP187.out.on hb188)
                    clear HP187 he hf
                    have hz188 := hb188.size
                    have HO188 := Lib.hid (ownT_on (w' := y188) HO.out fun q _ h => hb188.block q h)
                    clear HO
                    have HK188 := Lib.hid (fun q (h1 : b0 ≤ q) (h2 : q < b167) => (hb188.block q (by omega)).trans (HK.out q h1 h2))
                    clear HK
                    go_wp2_with fail
                    refine (msmall_any g N ba bn bc l s0 _ HP188.out).mono ?_
                    rintro e y189 ⟨rfl, hm, ha⟩
                    have hr189_0 := (ha.block _ (lt_heap hr188_0) (lt_heap hr188_0) (by omega)).trans hr188_0
                    have hr189_1 := (ha.block _ (lt_heap hr188_1) (lt_heap hr188_1) (by omega)).trans hr188_1
                    have hr189_2 := (ha.block _ (lt_heap hr188_2) (lt_heap hr188_2) (by omega)).trans hr188_2
                    have HK189 := Lib.hid (fun q (h1 : b0 ≤ q) (h2 : q < b167) => (ha.block q (by omega) (by omega) (by omega)).trans (HK188.out q h1 h2))
                    clear HK188
                    have HO189 := Lib.hid (own_via (w' := y189) HO188.out fun q hq => ha.block q (HO188.out.lt q hq).2 (HO188.out.lt q hq).2 (by have := (HO188.out.lt q hq).1; omega))
                    clear HO188
                    have hz189 := ha.size
                    have HU189 := Lib.hid (HU188.out.trans (ha.below (by omega) (by omega) (by omega)))
                    obtain ⟨t189, ht189⟩ : ∃ t : St, t = (numS s0 2).2 := ⟨_, rfl⟩
                    rw [← ht189] at hm
                    have HT189 := Lib.hid ht189
                    have HP189 := Lib.hid hm
                    clear hm ha ht189 HP188
                    clear hr188_0 hr188_1 hr188_2 HU188
                    obtain ⟨x0, hx0⟩ : ∃ v, v = small16 (numS s0 2).1 := ⟨_, rfl⟩
                    rw [← hx0]
                    have Xx0 := Lib.hid hx0
                    clear hx0
                    have c2_0 := cell_of_row _ _ 0 _ _ _ hr189_2
                    simp at c2_0
                    have fz : ∀ j, y189.frozen? ⟨y187.heap.size, j, none⟩ = false := fun j => by simp [World.frozen?, hr189_2]
                    go_upto_region 63 with fail
                    clear fz
                    clear c2_0
                    have hN : (y189.setCell ⟨y187.heap.size, 0, none⟩ (.int .i64 x0)).heap[y187.heap.size]? = some (.cells #[.int .i64 x0, .int .i64 0, .int .i64 0, .int .i64 0, .int .i64 0, .int .i64 0, .int .i64 0, .int .i64 0, .int .i64 0, .int .i64 0, .int .i64 0, .int .i64 0, .int .i64 0] 85 (0, 0)) := heap_setCell_same _ _ 0 _ _ _ hr189_2
                    have hO : ∀ kk, kk ≠ y187.heap.size → (y189.setCell ⟨y187.heap.size, 0, none⟩ (.int .i64 x0)).heap[kk]? = y189.heap[kk]? := fun kk hk => Below.heap_setCell _ _ _ _ hk
                    have HUx : Below w.heap.size w (y189.setCell ⟨y187.heap.size, 0, none⟩ (.int .i64 x0)) := HU189.out.setCell (by show w.heap.size ≤ y187.heap.size; omega) _
                    have hPx := HP189.out.setFar (b := y187.heap.size) (by omega) 0 (.int .i64 x0)
                    have hzx : y189.heap.size ≤ (y189.setCell ⟨y187.heap.size, 0, none⟩ (.int .i64 x0)).heap.size := by simp
                    obtain ⟨y190, hy190⟩ : ∃ y, y189.setCell ⟨y187.heap.size, 0, none⟩ (.int .i64 x0) = y := ⟨_, rfl⟩
                    rw [hy190] at hN hO HUx hPx hzx ⊢
                    clear hy190
                    have HU190 := Lib.hid HUx
                    have HP190 := Lib.hid hPx
                    have hz190 := hzx
                    have hr190_0 := (hO _ (by omega)).trans hr189_0
                    have hr190_1 := (hO _ (by omega)).trans hr189_1
                    have hr190_2 := hN
                    have HK190 := Lib.hid (fun q (h1 : b0 ≤ q) (h2 : q < b167) => (hO q (by omega)).trans (HK189.out q h1 h2))
                    clear HK189
                    have HO190 := Lib.hid (own_via (w' := y190) HO189.out fun q hq => hO q (by have := HQ0.out q hq; omega))
                    clear HO189
                    clear hN hO HUx hPx hzx HP189
                    clear hr189_0 hr189_1 hr189_2 HU189
                    go_wp2_with fail
                    refine (mnum_lit g N ba bn bc l t189 2 2 rfl (by omega) _ HP190.out).mono ?_
                    rintro e y191 ⟨⟨x1, rfl, lx1, Xx1⟩, hm, ha⟩
                    have hr191_0 := (ha.block _ (lt_heap hr190_0) (lt_heap hr190_0) (by omega)).trans hr190_0
                    have hr191_1 := (ha.block _ (lt_heap hr190_1) (lt_heap hr190_1) (by omega)).trans hr190_1
                    have hr191_2 := (ha.block _ (lt_heap hr190_2) (lt_heap hr190_2) (by omega)).trans hr190_2
                    have HK191 := Lib.hid (fun q (h1 : b0 ≤ q) (h2 : q < b167) => (ha.block q (by omega) (by omega) (by omega)).trans (HK190.out q h1 h2))
                    clear HK190
                    have HO191 := Lib.hid (own_via (w' := y191) HO190.out fun q hq => ha.block q (HO190.out.lt q hq).2 (HO190.out.lt q hq).2 (by have := (HO190.out.lt q hq).1; omega))
                    clear HO190
                    have hz191 := ha.size
                    have HU191 := Lib.hid (HU190.out.trans (ha.below (by omega) (by omega) (by omega)))
                    obtain ⟨t191, ht191⟩ : ∃ t : St, t = (numS t189 2).2 := ⟨_, rfl⟩
                    rw [← ht191] at hm
                    have HT191 := Lib.hid ht191
                    have HP191 := Lib.hid hm
                    clear hm ha ht191 HP190
                    clear hr190_0 hr190_1 hr190_2 HU190
                    have lx1 : x1 < 65536 := lx1
                    have c2_1 := cell_of_row _ _ 1 _ _ _ hr191_2
                    simp at c2_1
                    have fz : ∀ j, y191.frozen? ⟨y187.heap.size, j, none⟩ = false := fun j => by simp [World.frozen?, hr191_2]
                    go_upto_region 64 with fail
                    clear fz
                    clear c2_1
                    have hN : (y191.setCell ⟨y187.heap.size, 1, none⟩ (.int .i64 (x1 : Int))).heap[y187.heap.size]? = some (.cells #[.int .i64 x0, .int .i64 (x1 : Int), .int .i64 0, .int .i64 0, .int .i64 0, .int .i64 0, .int .i64 0, .int .i64 0, .int .i64 0, .int .i64 0, .int .i64 0, .int .i64 0, .int .i64 0] 85 (0, 0)) := heap_setCell_same _ _ 1 _ _ _ hr191_2
                    have hO : ∀ kk, kk ≠ y187.heap.size → (y191.setCell ⟨y187.heap.size, 1, none⟩ (.int .i64 (x1 : Int))).heap[kk]? = y191.heap[kk]? := fun kk hk => Below.heap_setCell _ _ _ _ hk
                    have HUx : Below w.heap.size w (y191.setCell ⟨y187.heap.size, 1, none⟩ (.int .i64 (x1 : Int))) := HU191.out.setCell (by show w.heap.size ≤ y187.heap.size; omega) _
                    have hPx := HP191.out.setFar (b := y187.heap.size) (by omega) 1 (.int .i64 (x1 : Int))
                    have hzx : y191.heap.size ≤ (y191.setCell ⟨y187.heap.size, 1, none⟩ (.int .i64 (x1 : Int))).heap.size := by simp
                    obtain ⟨y192, hy192⟩ : ∃ y, y191.setCell ⟨y187.heap.size, 1, none⟩ (.int .i64 (x1 : Int)) = y := ⟨_, rfl⟩
                    rw [hy192] at hN hO HUx hPx hzx ⊢
                    clear hy192
                    have HU192 := Lib.hid HUx
                    have HP192 := Lib.hid hPx
                    have hz192 := hzx
                    have hr192_0 := (hO _ (by omega)).trans hr191_0
                    have hr192_1 := (hO _ (by omega)).trans hr191_1
                    have hr192_2 := hN
                    have HK192 := Lib.hid (fun q (h1 : b0 ≤ q) (h2 : q < b167) => (hO q (by omega)).trans (HK191.out q h1 h2))
                    clear HK191
                    have HO192 := Lib.hid (own_via (w' := y192) HO191.out fun q hq => hO q (by have := HQ0.out q hq; omega))
                    clear HO191
                    clear hN hO HUx hPx hzx HP191
                    clear hr191_0 hr191_1 hr191_2 HU191
                    go_wp2_with fail
                    refine (mnum_lit g N ba bn bc l t191 1 1 rfl (by omega) _ HP192.out).mono ?_
                    rintro e y193 ⟨⟨x2, rfl, lx2, Xx2⟩, hm, ha⟩
                    have hr193_0 := (ha.block _ (lt_heap hr192_0) (lt_heap hr192_0) (by omega)).trans hr192_0
                    have hr193_1 := (ha.block _ (lt_heap hr192_1) (lt_heap hr192_1) (by omega)).trans hr192_1
                    have hr193_2 := (ha.block _ (lt_heap hr192_2) (lt_heap hr192_2) (by omega)).trans hr192_2
                    have HK193 := Lib.hid (fun q (h1 : b0 ≤ q) (h2 : q < b167) => (ha.block q (by omega) (by omega) (by omega)).trans (HK192.out q h1 h2))
                    clear HK192
                    have HO193 := Lib.hid (own_via (w' := y193) HO192.out fun q hq => ha.block q (HO192.out.lt q hq).2 (HO192.out.lt q hq).2 (by have := (HO192.out.lt q hq).1; omega))
                    clear HO192
                    have hz193 := ha.size
                    have HU193 := Lib.hid (HU192.out.trans (ha.below (by omega) (by omega) (by omega)))
                    obtain ⟨t193, ht193⟩ : ∃ t : St, t = (numS t191 1).2 := ⟨_, rfl⟩
                    rw [← ht193] at hm
                    have HT193 := Lib.hid ht193
                    have HP193 := Lib.hid hm
                    clear hm ha ht193 HP192
                    clear hr192_0 hr192_1 hr192_2 HU192
                    have lx2 : x2 < 256 := lx2
                    have c2_2 := cell_of_row _ _ 2 _ _ _ hr193_2
                    simp at c2_2
                    have fz : ∀ j, y193.frozen? ⟨y187.heap.size, j, none⟩ = false := fun j => by simp [World.frozen?, hr193_2]
                    go_upto_region 65 with fail
                    clear fz
                    clear c2_2
                    have hN : (y193.setCell ⟨y187.heap.size, 2, none⟩ (.int .i64 (x2 : Int))).heap[y187.heap.size]? = some (.cells #[.int .i64 x0, .int .i64 (x1 : Int), .int .i64 (x2 : Int), .int .i64 0, .int .i64 0, .int .i64 0, .int .i64 0, .int .i64 0, .int .i64 0, .int .i64 0, .int .i64 0, .int .i64 0, .int .i64 0] 85 (0, 0)) := heap_setCell_same _ _ 2 _ _ _ hr193_2
                    have hO : ∀ kk, kk ≠ y187.heap.size → (y193.setCell ⟨y187.heap.size, 2, none⟩ (.int .i64 (x2 : Int))).heap[kk]? = y193.heap[kk]? := fun kk hk => Below.heap_setCell _ _ _ _ hk
                    have HUx : Below w.heap.size w (y193.setCell ⟨y187.heap.size, 2, none⟩ (.int .i64 (x2 : Int))) := HU193.out.setCell (by show w.heap.size ≤ y187.heap.size; omega) _
                    have hPx := HP193.out.setFar (b := y187.heap.size) (by omega) 2 (.int .i64 (x2 : Int))
                    have hzx : y193.heap.size ≤ (y193.setCell ⟨y187.heap.size, 2, none⟩ (.int .i64 (x2 : Int))).heap.size := by simp
                    obtain ⟨y194, hy194⟩ : ∃ y, y193.setCell ⟨y187.heap.size, 2, none⟩ (.int .i64 (x2 : Int)) = y := ⟨_, rfl⟩
                    rw [hy194] at hN hO HUx hPx hzx ⊢
                    clear hy194
                    have HU194 := Lib.hid HUx
                    have HP194 := Lib.hid hPx
                    have hz194 := hzx
                    have hr194_0 := (hO _ (by omega)).trans hr193_0
                    have hr194_1 := (hO _ (by omega)).trans hr193_1
                    have hr194_2 := hN
                    have HK194 := Lib.hid (fun q (h1 : b0 ≤ q) (h2 : q < b167) => (hO q (by omega)).trans (HK193.out q h1 h2))
                    clear HK193
                    have HO194 := Lib.hid (own_via (w' := y194) HO193.out fun q hq => hO q (by have := HQ0.out q hq; omega))
                    clear HO193
                    clear hN hO HUx hPx hzx HP193
                    clear hr193_0 hr193_1 hr193_2 HU193
                    go_wp2_with fail
                    refine (mvec_any g N ba bn bc l t193 _ HP194.out).mono ?_
                    rintro e y195 ⟨rfl, hm, ha⟩
                    have hr195_0 := (ha.block _ (lt_heap hr194_0) (lt_heap hr194_0) (by omega)).trans hr194_0
                    have hr195_1 := (ha.block _ (lt_heap hr194_1) (lt_heap hr194_1) (by omega)).trans hr194_1
                    have hr195_2 := (ha.block _ (lt_heap hr194_2) (lt_heap hr194_2) (by omega)).trans hr194_2
                    have HK195 := Lib.hid (fun q (h1 : b0 ≤ q) (h2 : q < b167) => (ha.block q (by omega) (by omega) (by omega)).trans (HK194.out q h1 h2))
                    clear HK194
                    have HO195 := Lib.hid (own_via (w' := y195) HO194.out fun q hq => ha.block q (HO194.out.lt q hq).2 (HO194.out.lt q hq).2 (by have := (HO194.out.lt q hq).1; omega))
                    clear HO194
                    have hz195 := ha.size
                    have HU195 := Lib.hid (HU194.out.trans (ha.below (by omega) (by omega) (by omega)))
                    obtain ⟨t195, ht195⟩ : ∃ t : St, t = (threeS t193).2 := ⟨_, rfl⟩
                    rw [← ht195] at hm
                    have HT195 := Lib.hid ht195
                    have HP195 := Lib.hid hm
                    clear hm ha ht195 HP194
                    clear hr194_0 hr194_1 hr194_2 HU194
                    obtain ⟨x3, hx3⟩ : ∃ v, v = (threeS t193).1 0 := ⟨_, rfl⟩
                    rw [← hx3]
                    have Xx3 := Lib.hid hx3
                    clear hx3
                    obtain ⟨x4, hx4⟩ : ∃ v, v = (threeS t193).1 1 := ⟨_, rfl⟩
                    rw [← hx4]
                    have Xx4 := Lib.hid hx4
                    clear hx4
                    obtain ⟨x5, hx5⟩ : ∃ v, v = (threeS t193).1 2 := ⟨_, rfl⟩
                    rw [← hx5]
                    have Xx5 := Lib.hid hx5
                    clear hx5
                    have c2_3 := cell_of_row _ _ 3 _ _ _ hr195_2
                    have c2_4 := cell_of_row _ _ 4 _ _ _ hr195_2
                    have c2_5 := cell_of_row _ _ 5 _ _ _ hr195_2
                    simp at c2_3 c2_4 c2_5
                    have fz : ∀ j, y195.frozen? ⟨y187.heap.size, j, none⟩ = false := fun j => by simp [World.frozen?, hr195_2]
                    go_upto_region 66 with fail
                    clear fz
                    clear c2_3 c2_4 c2_5
                    have hN : (((y195.setCell ⟨y187.heap.size, 3, none⟩ (.int .i64 x3)).setCell ⟨y187.heap.size, 4, none⟩ (.int .i64 x4)).setCell ⟨y187.heap.size, 5, none⟩ (.int .i64 x5)).heap[y187.heap.size]? = some (.cells #[.int .i64 x0, .int .i64 (x1 : Int), .int .i64 (x2 : Int), .int .i64 x3, .int .i64 x4, .int .i64 x5, .int .i64 0, .int .i64 0, .int .i64 0, .int .i64 0, .int .i64 0, .int .i64 0, .int .i64 0] 85 (0, 0)) := part3 hr195_2 _ _ _ rfl
                    have HUx : Below w.heap.size w (((y195.setCell ⟨y187.heap.size, 3, none⟩ (.int .i64 x3)).setCell ⟨y187.heap.size, 4, none⟩ (.int .i64 x4)).setCell ⟨y187.heap.size, 5, none⟩ (.int .i64 x5)) := below_put3o (k := y187.heap.size) HU195.out 3 (by omega) (.int .i64 x3) (.int .i64 x4) (.int .i64 x5)
                    have hPx := ((HP195.out.setFar (b := y187.heap.size) (by omega) 3 (.int .i64 x3)).setFar (b := y187.heap.size) (by omega) 4 (.int .i64 x4)).setFar (b := y187.heap.size) (by omega) 5 (.int .i64 x5)
                    have hzx : y195.heap.size ≤ (((y195.setCell ⟨y187.heap.size, 3, none⟩ (.int .i64 x3)).setCell ⟨y187.heap.size, 4, none⟩ (.int .i64 x4)).setCell ⟨y187.heap.size, 5, none⟩ (.int .i64 x5)).heap.size := by simp
                    have hO : ∀ kk, kk ≠ y187.heap.size → (((y195.setCell ⟨y187.heap.size, 3, none⟩ (.int .i64 x3)).setCell ⟨y187.heap.size, 4, none⟩ (.int .i64 x4)).setCell ⟨y187.heap.size, 5, none⟩ (.int .i64 x5)).heap[kk]? = y195.heap[kk]? := fun kk hk => put3_other _ _ _ _ _ hk
                    obtain ⟨y196, hy196⟩ : ∃ y, ((y195.setCell ⟨y187.heap.size, 3, none⟩ (.int .i64 x3)).setCell ⟨y187.heap.size, 4, none⟩ (.int .i64 x4)).setCell ⟨y187.heap.size, 5, none⟩ (.int .i64 x5) = y := ⟨_, rfl⟩
                    rw [hy196] at hN hO HUx hPx hzx ⊢
                    clear hy196
                    have HU196 := Lib.hid HUx
                    have HP196 := Lib.hid hPx
                    have hz196 := hzx
                    have hr196_0 := (hO _ (by omega)).trans hr195_0
                    have hr196_1 := (hO _ (by omega)).trans hr195_1
                    have hr196_2 := hN
                    have HK196 := Lib.hid (fun q (h1 : b0 ≤ q) (h2 : q < b167) => (hO q (by omega)).trans (HK195.out q h1 h2))
                    clear HK195
                    have HO196 := Lib.hid (own_via (w' := y196) HO195.out fun q hq => hO q (by have := HQ0.out q hq; omega))
                    clear HO195
                    clear hN hO HUx hPx hzx HP195
                    clear hr195_0 hr195_1 hr195_2 HU195
                    by_cases k0 : (x2 : Int) = 0
                    · have d1 : ((x2 : Int) == 0) = true := by simpa using k0
                      have d2 := decide_eq_true k0
                      have K1 := Lib.hid (show ¬ (x2 : Int) = 1 by omega)
                      have K0 := Lib.hid k0
                      clear k0
                      have c2_2 := cell_of_row _ _ 2 _ _ _ hr196_2
                      simp at c2_2
                      go_upto_region 70 with fail
                      clear d1 d2
                      clear c2_2
                      go_wp2_with fail
                      refine (mfix_any g N ba bn bc l t195 _ HP196.out).mono ?_
                      rintro e y197 ⟨rfl, hm, ha⟩
                      have hr197_0 := (ha.block _ (lt_heap hr196_0) (lt_heap hr196_0) (by omega)).trans hr196_0
                      have hr197_1 := (ha.block _ (lt_heap hr196_1) (lt_heap hr196_1) (by omega)).trans hr196_1
                      have hr197_2 := (ha.block _ (lt_heap hr196_2) (lt_heap hr196_2) (by omega)).trans hr196_2
                      have HK197 := Lib.hid (fun q (h1 : b0 ≤ q) (h2 : q < b167) => (ha.block q (by omega) (by omega) (by omega)).trans (HK196.out q h1 h2))
                      clear HK196
                      have HO197 := Lib.hid (own_via (w' := y197) HO196.out fun q hq => ha.block q (HO196.out.lt q hq).2 (HO196.out.lt q hq).2 (by have := (HO196.out.lt q hq).1; omega))
                      clear HO196
                      have hz197 := ha.size
                      have HU197 := Lib.hid (HU196.out.trans (ha.below (by omega) (by omega) (by omega)))
                      obtain ⟨t197, ht197⟩ : ∃ t : St, t = (fixS t195).2 := ⟨_, rfl⟩
                      rw [← ht197] at hm
                      have HT197 := Lib.hid ht197
                      have HP197 := Lib.hid hm
                      clear hm ha ht197 HP196
                      clear hr196_0 hr196_1 hr196_2 HU196
                      obtain ⟨x12, hx12⟩ : ∃ v, v = (fixS t195).1 := ⟨_, rfl⟩
                      rw [← hx12]
                      have Xx12 := Lib.hid hx12
                      clear hx12
                      have c2_12 := cell_of_row _ _ 12 _ _ _ hr197_2
                      simp at c2_12
                      have fz : ∀ j, y197.frozen? ⟨y187.heap.size, j, none⟩ = false := fun j => by simp [World.frozen?, hr197_2]
                      go_upto_region 74 with fail
                      clear fz
                      clear c2_12
                      have hN : (y197.setCell ⟨y187.heap.size, 12, none⟩ (.int .i64 x12)).heap[y187.heap.size]? = some (.cells #[.int .i64 x0, .int .i64 (x1 : Int), .int .i64 (x2 : Int), .int .i64 x3, .int .i64 x4, .int .i64 x5, .int .i64 0, .int .i64 0, .int .i64 0, .int .i64 0, .int .i64 0, .int .i64 0, .int .i64 x12] 85 (0, 0)) := heap_setCell_same _ _ 12 _ _ _ hr197_2
                      have hO : ∀ kk, kk ≠ y187.heap.size → (y197.setCell ⟨y187.heap.size, 12, none⟩ (.int .i64 x12)).heap[kk]? = y197.heap[kk]? := fun kk hk => Below.heap_setCell _ _ _ _ hk
                      have HUx : Below w.heap.size w (y197.setCell ⟨y187.heap.size, 12, none⟩ (.int .i64 x12)) := HU197.out.setCell (by show w.heap.size ≤ y187.heap.size; omega) _
                      have hPx := HP197.out.setFar (b := y187.heap.size) (by omega) 12 (.int .i64 x12)
                      have hzx : y197.heap.size ≤ (y197.setCell ⟨y187.heap.size, 12, none⟩ (.int .i64 x12)).heap.size := by simp
                      obtain ⟨y198, hy198⟩ : ∃ y, y197.setCell ⟨y187.heap.size, 12, none⟩ (.int .i64 x12) = y := ⟨_, rfl⟩
                      rw [hy198] at hN hO HUx hPx hzx ⊢
                      clear hy198
                      have HU198 := Lib.hid HUx
                      have HP198 := Lib.hid hPx
                      have hz198 := hzx
                      have hr198_0 := (hO _ (by omega)).trans hr197_0
                      have hr198_1 := (hO _ (by omega)).trans hr197_1
                      have hr198_2 := hN
                      have HK198 := Lib.hid (fun q (h1 : b0 ≤ q) (h2 : q < b167) => (hO q (by omega)).trans (HK197.out q h1 h2))
                      clear HK197
                      have HO198 := Lib.hid (own_via (w' := y198) HO197.out fun q hq => hO q (by have := HQ0.out q hq; omega))
                      clear HO197
                      clear hN hO HUx hPx hzx HP197
                      clear hr197_0 hr197_1 hr197_2 HU197
                      obtain ⟨i0, hi, hz0, hz1, hz2⟩ := info_parts dinfo_shape
                      have c1_16 := cell_of_row _ _ 16 _ _ _ hr198_1
                      have c2_0 := cell_of_row _ _ 0 _ _ _ hr198_2
                      have c2_1 := cell_of_row _ _ 1 _ _ _ hr198_2
                      have c2_2 := cell_of_row _ _ 2 _ _ _ hr198_2
                      have c2_3 := cell_of_row _ _ 3 _ _ _ hr198_2
                      have c2_4 := cell_of_row _ _ 4 _ _ _ hr198_2
                      have c2_5 := cell_of_row _ _ 5 _ _ _ hr198_2
                      have c2_6 := cell_of_row _ _ 6 _ _ _ hr198_2
                      have c2_7 := cell_of_row _ _ 7 _ _ _ hr198_2
                      have c2_8 := cell_of_row _ _ 8 _ _ _ hr198_2
                      have c2_9 := cell_of_row _ _ 9 _ _ _ hr198_2
                      have c2_10 := cell_of_row _ _ 10 _ _ _ hr198_2
                      have c2_11 := cell_of_row _ _ 11 _ _ _ hr198_2
                      have c2_12 := cell_of_row _ _ 12 _ _ _ hr198_2
                      simp at c1_16 c2_0 c2_1 c2_2 c2_3 c2_4 c2_5 c2_6 c2_7 c2_8 c2_9 c2_10 c2_11 c2_12
                      have HI := Lib.hid (HO198.out.alloc (.cells #[.int .i64 x0, .int .i64 (x1 : Int), .int .i64 (x2 : Int), .int .i64 x3, .int .i64 x4, .int .i64 x5, .int .i64 0, .int .i64 0, .int .i64 0, .int .i64 0, .int .i64 0, .int .i64 0, .int .i64 x12] 85))
                      have hsm : k * 1352 ≤ 1000000 := by omega
                      have hx1 : ∀ j u, ([.int .i64 x0, .int .i64 (x1 : Int), .int .i64 (x2 : Int), .int .i64 x3, .int .i64 x4, .int .i64 x5, .int .i64 0, .int .i64 0, .int .i64 0, .int .i64 0, .int .i64 0, .int .i64 0, .int .i64 x12] : List Value)[j]? = some u → (y198.alloc (.cells #[.int .i64 x0, .int .i64 (x1 : Int), .int .i64 (x2 : Int), .int .i64 x3, .int .i64 x4, .int .i64 x5, .int .i64 0, .int .i64 0, .int .i64 0, .int .i64 0, .int .i64 0, .int .i64 0, .int .i64 x12] 85)).cell? ((⟨y198.heap.size, 0, none⟩ : Addr).add j) = some u := by
                        intro j u hj
                        match j, hj with
                        | 0, hj => simp at hj; subst hj; simp [Addr.add]
                        | 1, hj => simp at hj; subst hj; simp [Addr.add]
                        | 2, hj => simp at hj; subst hj; simp [Addr.add]
                        | 3, hj => simp at hj; subst hj; simp [Addr.add]
                        | 4, hj => simp at hj; subst hj; simp [Addr.add]
                        | 5, hj => simp at hj; subst hj; simp [Addr.add]
                        | 6, hj => simp at hj; subst hj; simp [Addr.add]
                        | 7, hj => simp at hj; subst hj; simp [Addr.add]
                        | 8, hj => simp at hj; subst hj; simp [Addr.add]
                        | 9, hj => simp at hj; subst hj; simp [Addr.add]
                        | 10, hj => simp at hj; subst hj; simp [Addr.add]
                        | 11, hj => simp at hj; subst hj; simp [Addr.add]
                        | 12, hj => simp at hj; subst hj; simp [Addr.add]
                      have HX1 := Lib.hid hx1
                      clear hx1
                      have HX2 := Lib.hid (show ∀ u ∈ ([.int .i64 x0, .int .i64 (x1 : Int), .int .i64 (x2 : Int), .int .i64 x3, .int .i64 x4, .int .i64 x5, .int .i64 0, .int .i64 0, .int .i64 0, .int .i64 0, .int .i64 0, .int .i64 0, .int .i64 x12] : List Value), u.oneCell' = true by intro u hu; simp only [List.mem_cons, List.not_mem_nil, or_false] at hu; rcases hu with rfl | rfl | rfl | rfl | rfl | rfl | rfl | rfl | rfl | rfl | rfl | rfl | rfl <;> rfl)
                      go_wp2_with (first | (at_builtin; refine wpList_append_own _ rfl _ _ 47 rfl b167 85 i0 (.agg #[.int .i64 0, .int .i64 0, .int .i64 0, .int .i64 0, .int .i64 0, .int .i64 0, .int .i64 0, .int .i64 0, .int .i64 0, .int .i64 0, .int .i64 0, .int .i64 0, .int .i64 0]) 13 104 Tryz.underlying47 hi hz0 hz1 hz2 rfl (by decide) _ _ _ rfl HI.out ⟨y198.heap.size, 0, none⟩ 1 1 [.int .i64 x0, .int .i64 (x1 : Int), .int .i64 (x2 : Int), .int .i64 x3, .int .i64 x4, .int .i64 x5, .int .i64 0, .int .i64 0, .int .i64 0, .int .i64 0, .int .i64 0, .int .i64 0, .int .i64 x12] rfl rfl HX1.out HX2.out ?c3 ?c4 ?c5 ?_))
                      clear c1_16 c2_0 c2_1 c2_2 c2_3 c2_4 c2_5 c2_6 c2_7 c2_8 c2_9 c2_10 c2_11 c2_12
                      case c3 => unfold maxLen; omega
                      case c4 => omega
                      case c5 => (first | omega | (simp; omega))
                      intro v5 y9 hin2 hgrow2 _
                      have HST := Lib.hid (show itS shapeE t167 (k + 1) = t197 by show shapeE (itS shapeE t167 k) = _; rw [← HS0.out]; unfold shapeE; rw [← HT189.out, ← HT191.out, ← Xx2.out, ← HT193.out, ← HT195.out, if_pos K0.out, ← HT197.out])
                      have HSTEP : flatc 13 (itV shapeE shapeV 13 t167) (k + 1) = flatc 13 (itV shapeE shapeV 13 t167) k ++ [.int .i64 x0, .int .i64 (x1 : Int), .int .i64 (x2 : Int), .int .i64 x3, .int .i64 x4, .int .i64 x5, .int .i64 0, .int .i64 0, .int .i64 0, .int .i64 0, .int .i64 0, .int .i64 0, .int .i64 x12] := by
                        rw [step_shape, ← HS0.out]
                        congr 1
                        have hV : ∀ j, shapeV s0 j = [x0, (x1 : Int), (x2 : Int), x3, x4, x5, 0, 0, 0, 0, 0, 0, x12].getD j 0 := fun j => by
                          unfold shapeV
                          rw [← Xx0.out, ← HT189.out, ← Xx1.out, ← HT191.out, ← Xx2.out, ← HT193.out, ← Xx3.out, ← Xx4.out, ← Xx5.out, ← HT195.out, ← Xx12.out]
                          simp only [if_pos K0.out, if_neg K1.out]
                        simp only [hV]
                        rfl
                      rw [← HSTEP] at hin2
                      clear HSTEP
                      obtain ⟨fa, fc, hfv⟩ := Sc.own_form hin2
                      subst hfv
                      have hbx := Ve.below_n1 y198 (.cells #[.int .i64 x0, .int .i64 (x1 : Int), .int .i64 (x2 : Int), .int .i64 x3, .int .i64 x4, .int .i64 x5, .int .i64 0, .int .i64 0, .int .i64 0, .int .i64 0, .int .i64 0, .int .i64 0, .int .i64 x12] 85)
                      have hq9 := fun q hq => (HO198.out.lt q hq).1
                      have hsx := hbx.size
                      have hr9_0 := (hgrow2.block _ (Nat.lt_of_lt_of_le (lt_heap hr198_0) hsx) (fun e => by have := hq9 _ e.symm; omega)).trans ((hbx.block _ (lt_heap hr198_0)).trans hr198_0)
                      have hr9_1 := (hgrow2.block _ (Nat.lt_of_lt_of_le (lt_heap hr198_1) hsx) (fun e => by have := hq9 _ e.symm; omega)).trans ((hbx.block _ (lt_heap hr198_1)).trans hr198_1)
                      have hU9 := (HU198.out.trans (hbx.mono HU198.out.size)).grown hgrow2 (by have := HU198.out.size; omega) (fun q hq => by have := hq9 q hq; omega)
                      have hP9 := mat_near (HP198.out.on hbx) ((Below.refl (g + 1) _).grown hgrow2 (by omega) (fun q hq => by have := hq9 q hq; omega))
                      have hs9 := hgrow2.size
                      have cS := cell_of_row _ _ 16 _ _ _ hr9_1
                      simp at cS
                      have fz : ∀ j, y9.frozen? ⟨y20.heap.size, j, none⟩ = false := fun j => by simp [World.frozen?, hr9_1]
                      go_wp2_with fail
                      clear fz cS
                      have hN : (y9.setCell ⟨y20.heap.size, 16, none⟩ (.slice fa (k + 1) fc)).heap[y20.heap.size]? = some (.cells #[.int .i64 (a1 : Int), .int .i64 (a2 : Int), .int .i64 (a3 : Int), .int .i64 (a4 : Int), .int .i64 (a5 : Int), .int .i64 a6, .int .u64 (sd : Int), .int .i64 r1, .int .i64 r2, .int .i64 r3, .int .i64 (e1 : Int), .int .i64 (e2 : Int), .int .i64 e3, vS87, vS127, vS167, .slice fa (k + 1) fc] 49 (0, 0)) := heap_setCell_same _ _ 16 _ _ _ hr9_1
                      have hO : ∀ kk, kk ≠ y20.heap.size → (y9.setCell ⟨y20.heap.size, 16, none⟩ (.slice fa (k + 1) fc)).heap[kk]? = y9.heap[kk]? := fun kk hk => Below.heap_setCell _ _ _ _ hk
                      have HUx : Below w.heap.size w (y9.setCell ⟨y20.heap.size, 16, none⟩ (.slice fa (k + 1) fc)) := hU9.setCell (by show w.heap.size ≤ y20.heap.size; omega) _
                      have hPx := hP9.setFar (b := y20.heap.size) (by omega) 16 (.slice fa (k + 1) fc)
                      have hr0x := (hO _ (by omega)).trans hr9_0
                      have HOx := Lib.hid (own_via (w' := (y9.setCell ⟨y20.heap.size, 16, none⟩ (.slice fa (k + 1) fc))) hin2 fun q hq => hO q (by have := (hin2.lt q hq).1; omega))
                      have HKx := Lib.hid (fun q (h1 : b0 ≤ q) (h2 : q < b167) => (hO q (by omega)).trans ((hgrow2.block q (by omega) (fun e => by have := hq9 _ e.symm; omega)).trans ((hbx.block q (by omega)).trans (HK198.out q h1 h2))))
                      go_roundw
                      case rel => exact ⟨k + 1, .slice fa (k + 1) fc, by omega, by go_num, hr0x, hN, HOx, Lib.hid (by rw [HST.out]; exact hPx), Lib.hid HUx, by simp; omega, HKx⟩
                      case measure => simp [intOf]; omega
                    · have d1 : ((x2 : Int) == 0) = false := by simpa using k0
                      have d2 := decide_eq_false k0
                      by_cases k1 : (x2 : Int) = 1
                      · have d3 : ((x2 : Int) == 1) = true := by simpa using k1
                        have d4 := decide_eq_true k1
                        have K0 := Lib.hid k0
                        have K1 := Lib.hid k1
                        clear k0 k1
                        have c2_2 := cell_of_row _ _ 2 _ _ _ hr196_2
                        simp at c2_2
                        go_upto_region 72 with fail
                        clear d1 d2 d3 d4
                        clear c2_2
                        go_wp2_with fail
                        refine (mvec_any g N ba bn bc l t195 _ HP196.out).mono ?_
                        rintro e y197 ⟨rfl, hm, ha⟩
                        have hr197_0 := (ha.block _ (lt_heap hr196_0) (lt_heap hr196_0) (by omega)).trans hr196_0
                        have hr197_1 := (ha.block _ (lt_heap hr196_1) (lt_heap hr196_1) (by omega)).trans hr196_1
                        have hr197_2 := (ha.block _ (lt_heap hr196_2) (lt_heap hr196_2) (by omega)).trans hr196_2
                        have HK197 := Lib.hid (fun q (h1 : b0 ≤ q) (h2 : q < b167) => (ha.block q (by omega) (by omega) (by omega)).trans (HK196.out q h1 h2))
                        clear HK196
                        have HO197 := Lib.hid (own_via (w' := y197) HO196.out fun q hq => ha.block q (HO196.out.lt q hq).2 (HO196.out.lt q hq).2 (by have := (HO196.out.lt q hq).1; omega))
                        clear HO196
                        have hz197 := ha.size
                        have HU197 := Lib.hid (HU196.out.trans (ha.below (by omega) (by omega) (by omega)))
                        obtain ⟨t197, ht197⟩ : ∃ t : St, t = (threeS t195).2 := ⟨_, rfl⟩
                        rw [← ht197] at hm
                        have HT197 := Lib.hid ht197
                        have HP197 := Lib.hid hm
                        clear hm ha ht197 HP196
                        clear hr196_0 hr196_1 hr196_2 HU196
                        obtain ⟨x6, hx6⟩ : ∃ v, v = (threeS t195).1 0 := ⟨_, rfl⟩
                        rw [← hx6]
                        have Xx6 := Lib.hid hx6
                        clear hx6
                        obtain ⟨x7, hx7⟩ : ∃ v, v = (threeS t195).1 1 := ⟨_, rfl⟩
                        rw [← hx7]
                        have Xx7 := Lib.hid hx7
                        clear hx7
                        obtain ⟨x8, hx8⟩ : ∃ v, v = (threeS t195).1 2 := ⟨_, rfl⟩
                        rw [← hx8]
                        have Xx8 := Lib.hid hx8
                        clear hx8
                        have c2_6 := cell_of_row _ _ 6 _ _ _ hr197_2
                        have c2_7 := cell_of_row _ _ 7 _ _ _ hr197_2
                        have c2_8 := cell_of_row _ _ 8 _ _ _ hr197_2
                        simp at c2_6 c2_7 c2_8
                        have fz : ∀ j, y197.frozen? ⟨y187.heap.size, j, none⟩ = false := fun j => by simp [World.frozen?, hr197_2]
                        go_upto_region 73 with fail
                        clear fz
                        clear c2_6 c2_7 c2_8
                        have hN : (((y197.setCell ⟨y187.heap.size, 6, none⟩ (.int .i64 x6)).setCell ⟨y187.heap.size, 7, none⟩ (.int .i64 x7)).setCell ⟨y187.heap.size, 8, none⟩ (.int .i64 x8)).heap[y187.heap.size]? = some (.cells #[.int .i64 x0, .int .i64 (x1 : Int), .int .i64 (x2 : Int), .int .i64 x3, .int .i64 x4, .int .i64 x5, .int .i64 x6, .int .i64 x7, .int .i64 x8, .int .i64 0, .int .i64 0, .int .i64 0, .int .i64 0] 85 (0, 0)) := part3 hr197_2 _ _ _ rfl
                        have HUx : Below w.heap.size w (((y197.setCell ⟨y187.heap.size, 6, none⟩ (.int .i64 x6)).setCell ⟨y187.heap.size, 7, none⟩ (.int .i64 x7)).setCell ⟨y187.heap.size, 8, none⟩ (.int .i64 x8)) := below_put3o (k := y187.heap.size) HU197.out 6 (by omega) (.int .i64 x6) (.int .i64 x7) (.int .i64 x8)
                        have hPx := ((HP197.out.setFar (b := y187.heap.size) (by omega) 6 (.int .i64 x6)).setFar (b := y187.heap.size) (by omega) 7 (.int .i64 x7)).setFar (b := y187.heap.size) (by omega) 8 (.int .i64 x8)
                        have hzx : y197.heap.size ≤ (((y197.setCell ⟨y187.heap.size, 6, none⟩ (.int .i64 x6)).setCell ⟨y187.heap.size, 7, none⟩ (.int .i64 x7)).setCell ⟨y187.heap.size, 8, none⟩ (.int .i64 x8)).heap.size := by simp
                        have hO : ∀ kk, kk ≠ y187.heap.size → (((y197.setCell ⟨y187.heap.size, 6, none⟩ (.int .i64 x6)).setCell ⟨y187.heap.size, 7, none⟩ (.int .i64 x7)).setCell ⟨y187.heap.size, 8, none⟩ (.int .i64 x8)).heap[kk]? = y197.heap[kk]? := fun kk hk => put3_other _ _ _ _ _ hk
                        obtain ⟨y198, hy198⟩ : ∃ y, ((y197.setCell ⟨y187.heap.size, 6, none⟩ (.int .i64 x6)).setCell ⟨y187.heap.size, 7, none⟩ (.int .i64 x7)).setCell ⟨y187.heap.size, 8, none⟩ (.int .i64 x8) = y := ⟨_, rfl⟩
                        rw [hy198] at hN hO HUx hPx hzx ⊢
                        clear hy198
                        have HU198 := Lib.hid HUx
                        have HP198 := Lib.hid hPx
                        have hz198 := hzx
                        have hr198_0 := (hO _ (by omega)).trans hr197_0
                        have hr198_1 := (hO _ (by omega)).trans hr197_1
                        have hr198_2 := hN
                        have HK198 := Lib.hid (fun q (h1 : b0 ≤ q) (h2 : q < b167) => (hO q (by omega)).trans (HK197.out q h1 h2))
                        clear HK197
                        have HO198 := Lib.hid (own_via (w' := y198) HO197.out fun q hq => hO q (by have := HQ0.out q hq; omega))
                        clear HO197
                        clear hN hO HUx hPx hzx HP197
                        clear hr197_0 hr197_1 hr197_2 HU197
                        go_wp2_with fail
                        refine (mvec_any g N ba bn bc l t197 _ HP198.out).mono ?_
                        rintro e y199 ⟨rfl, hm, ha⟩
                        have hr199_0 := (ha.block _ (lt_heap hr198_0) (lt_heap hr198_0) (by omega)).trans hr198_0
                        have hr199_1 := (ha.block _ (lt_heap hr198_1) (lt_heap hr198_1) (by omega)).trans hr198_1
                        have hr199_2 := (ha.block _ (lt_heap hr198_2) (lt_heap hr198_2) (by omega)).trans hr198_2
                        have HK199 := Lib.hid (fun q (h1 : b0 ≤ q) (h2 : q < b167) => (ha.block q (by omega) (by omega) (by omega)).trans (HK198.out q h1 h2))
                        clear HK198
                        have HO199 := Lib.hid (own_via (w' := y199) HO198.out fun q hq => ha.block q (HO198.out.lt q hq).2 (HO198.out.lt q hq).2 (by have := (HO198.out.lt q hq).1; omega))
                        clear HO198
                        have hz199 := ha.size
                        have HU199 := Lib.hid (HU198.out.trans (ha.below (by omega) (by omega) (by omega)))
                        obtain ⟨t199, ht199⟩ : ∃ t : St, t = (threeS t197).2 := ⟨_, rfl⟩
                        rw [← ht199] at hm
                        have HT199 := Lib.hid ht199
                        have HP199 := Lib.hid hm
                        clear hm ha ht199 HP198
                        clear hr198_0 hr198_1 hr198_2 HU198
                        obtain ⟨x9, hx9⟩ : ∃ v, v = (threeS t197).1 0 := ⟨_, rfl⟩
                        rw [← hx9]
                        have Xx9 := Lib.hid hx9
                        clear hx9
                        obtain ⟨x10, hx10⟩ : ∃ v, v = (threeS t197).1 1 := ⟨_, rfl⟩
                        rw [← hx10]
                        have Xx10 := Lib.hid hx10
                        clear hx10
                        obtain ⟨x11, hx11⟩ : ∃ v, v = (threeS t197).1 2 := ⟨_, rfl⟩
                        rw [← hx11]
                        have Xx11 := Lib.hid hx11
                        clear hx11
                        have c2_9 := cell_of_row _ _ 9 _ _ _ hr199_2
                        have c2_10 := cell_of_row _ _ 10 _ _ _ hr199_2
                        have c2_11 := cell_of_row _ _ 11 _ _ _ hr199_2
                        simp at c2_9 c2_10 c2_11
                        have fz : ∀ j, y199.frozen? ⟨y187.heap.size, j, none⟩ = false := fun j => by simp [World.frozen?, hr199_2]
                        go_upto_region 74 with fail
                        clear fz
                        clear c2_9 c2_10 c2_11
                        have hN : (((y199.setCell ⟨y187.heap.size, 9, none⟩ (.int .i64 x9)).setCell ⟨y187.heap.size, 10, none⟩ (.int .i64 x10)).setCell ⟨y187.heap.size, 11, none⟩ (.int .i64 x11)).heap[y187.heap.size]? = some (.cells #[.int .i64 x0, .int .i64 (x1 : Int), .int .i64 (x2 : Int), .int .i64 x3, .int .i64 x4, .int .i64 x5, .int .i64 x6, .int .i64 x7, .int .i64 x8, .int .i64 x9, .int .i64 x10, .int .i64 x11, .int .i64 0] 85 (0, 0)) := part3 hr199_2 _ _ _ rfl
                        have HUx : Below w.heap.size w (((y199.setCell ⟨y187.heap.size, 9, none⟩ (.int .i64 x9)).setCell ⟨y187.heap.size, 10, none⟩ (.int .i64 x10)).setCell ⟨y187.heap.size, 11, none⟩ (.int .i64 x11)) := below_put3o (k := y187.heap.size) HU199.out 9 (by omega) (.int .i64 x9) (.int .i64 x10) (.int .i64 x11)
                        have hPx := ((HP199.out.setFar (b := y187.heap.size) (by omega) 9 (.int .i64 x9)).setFar (b := y187.heap.size) (by omega) 10 (.int .i64 x10)).setFar (b := y187.heap.size) (by omega) 11 (.int .i64 x11)
                        have hzx : y199.heap.size ≤ (((y199.setCell ⟨y187.heap.size, 9, none⟩ (.int .i64 x9)).setCell ⟨y187.heap.size, 10, none⟩ (.int .i64 x10)).setCell ⟨y187.heap.size, 11, none⟩ (.int .i64 x11)).heap.size := by simp
                        have hO : ∀ kk, kk ≠ y187.heap.size → (((y199.setCell ⟨y187.heap.size, 9, none⟩ (.int .i64 x9)).setCell ⟨y187.heap.size, 10, none⟩ (.int .i64 x10)).setCell ⟨y187.heap.size, 11, none⟩ (.int .i64 x11)).heap[kk]? = y199.heap[kk]? := fun kk hk => put3_other _ _ _ _ _ hk
                        obtain ⟨y200, hy200⟩ : ∃ y, ((y199.setCell ⟨y187.heap.size, 9, none⟩ (.int .i64 x9)).setCell ⟨y187.heap.size, 10, none⟩ (.int .i64 x10)).setCell ⟨y187.heap.size, 11, none⟩ (.int .i64 x11) = y := ⟨_, rfl⟩
                        rw [hy200] at hN hO HUx hPx hzx ⊢
                        clear hy200
                        have HU200 := Lib.hid HUx
                        have HP200 := Lib.hid hPx
                        have hz200 := hzx
                        have hr200_0 := (hO _ (by omega)).trans hr199_0
                        have hr200_1 := (hO _ (by omega)).trans hr199_1
                        have hr200_2 := hN
                        have HK200 := Lib.hid (fun q (h1 : b0 ≤ q) (h2 : q < b167) => (hO q (by omega)).trans (HK199.out q h1 h2))
                        clear HK199
                        have HO200 := Lib.hid (own_via (w' := y200) HO199.out fun q hq => hO q (by have := HQ0.out q hq; omega))
                        clear HO199
                        clear hN hO HUx hPx hzx HP199
                        clear hr199_0 hr199_1 hr199_2 HU199
                        obtain ⟨i0, hi, hz0, hz1, hz2⟩ := info_parts dinfo_shape
                        have c1_16 := cell_of_row _ _ 16 _ _ _ hr200_1
                        have c2_0 := cell_of_row _ _ 0 _ _ _ hr200_2
                        have c2_1 := cell_of_row _ _ 1 _ _ _ hr200_2
                        have c2_2 := cell_of_row _ _ 2 _ _ _ hr200_2
                        have c2_3 := cell_of_row _ _ 3 _ _ _ hr200_2
                        have c2_4 := cell_of_row _ _ 4 _ _ _ hr200_2
                        have c2_5 := cell_of_row _ _ 5 _ _ _ hr200_2
                        have c2_6 := cell_of_row _ _ 6 _ _ _ hr200_2
                        have c2_7 := cell_of_row _ _ 7 _ _ _ hr200_2
                        have c2_8 := cell_of_row _ _ 8 _ _ _ hr200_2
                        have c2_9 := cell_of_row _ _ 9 _ _ _ hr200_2
                        have c2_10 := cell_of_row _ _ 10 _ _ _ hr200_2
                        have c2_11 := cell_of_row _ _ 11 _ _ _ hr200_2
                        have c2_12 := cell_of_row _ _ 12 _ _ _ hr200_2
                        simp at c1_16 c2_0 c2_1 c2_2 c2_3 c2_4 c2_5 c2_6 c2_7 c2_8 c2_9 c2_10 c2_11 c2_12
                        have HI := Lib.hid (HO200.out.alloc (.cells #[.int .i64 x0, .int .i64 (x1 : Int), .int .i64 (x2 : Int), .int .i64 x3, .int .i64 x4, .int .i64 x5, .int .i64 x6, .int .i64 x7, .int .i64 x8, .int .i64 x9, .int .i64 x10, .int .i64 x11, .int .i64 0] 85))
                        have hsm : k * 1352 ≤ 1000000 := by omega
                        have hx1 : ∀ j u, ([.int .i64 x0, .int .i64 (x1 : Int), .int .i64 (x2 : Int), .int .i64 x3, .int .i64 x4, .int .i64 x5, .int .i64 x6, .int .i64 x7, .int .i64 x8, .int .i64 x9, .int .i64 x10, .int .i64 x11, .int .i64 0] : List Value)[j]? = some u → (y200.alloc (.cells #[.int .i64 x0, .int .i64 (x1 : Int), .int .i64 (x2 : Int), .int .i64 x3, .int .i64 x4, .int .i64 x5, .int .i64 x6, .int .i64 x7, .int .i64 x8, .int .i64 x9, .int .i64 x10, .int .i64 x11, .int .i64 0] 85)).cell? ((⟨y200.heap.size, 0, none⟩ : Addr).add j) = some u := by
                          intro j u hj
                          match j, hj with
                          | 0, hj => simp at hj; subst hj; simp [Addr.add]
                          | 1, hj => simp at hj; subst hj; simp [Addr.add]
                          | 2, hj => simp at hj; subst hj; simp [Addr.add]
                          | 3, hj => simp at hj; subst hj; simp [Addr.add]
                          | 4, hj => simp at hj; subst hj; simp [Addr.add]
                          | 5, hj => simp at hj; subst hj; simp [Addr.add]
                          | 6, hj => simp at hj; subst hj; simp [Addr.add]
                          | 7, hj => simp at hj; subst hj; simp [Addr.add]
                          | 8, hj => simp at hj; subst hj; simp [Addr.add]
                          | 9, hj => simp at hj; subst hj; simp [Addr.add]
                          | 10, hj => simp at hj; subst hj; simp [Addr.add]
                          | 11, hj => simp at hj; subst hj; simp [Addr.add]
                          | 12, hj => simp at hj; subst hj; simp [Addr.add]
                        have HX1 := Lib.hid hx1
                        clear hx1
                        have HX2 := Lib.hid (show ∀ u ∈ ([.int .i64 x0, .int .i64 (x1 : Int), .int .i64 (x2 : Int), .int .i64 x3, .int .i64 x4, .int .i64 x5, .int .i64 x6, .int .i64 x7, .int .i64 x8, .int .i64 x9, .int .i64 x10, .int .i64 x11, .int .i64 0] : List Value), u.oneCell' = true by intro u hu; simp only [List.mem_cons, List.not_mem_nil, or_false] at hu; rcases hu with rfl | rfl | rfl | rfl | rfl | rfl | rfl | rfl | rfl | rfl | rfl | rfl | rfl <;> rfl)
                        go_wp2_with (first | (at_builtin; refine wpList_append_own _ rfl _ _ 47 rfl b167 85 i0 (.agg #[.int .i64 0, .int .i64 0, .int .i64 0, .int .i64 0, .int .i64 0, .int .i64 0, .int .i64 0, .int .i64 0, .int .i64 0, .int .i64 0, .int .i64 0, .int .i64 0, .int .i64 0]) 13 104 Tryz.underlying47 hi hz0 hz1 hz2 rfl (by decide) _ _ _ rfl HI.out ⟨y200.heap.size, 0, none⟩ 1 1 [.int .i64 x0, .int .i64 (x1 : Int), .int .i64 (x2 : Int), .int .i64 x3, .int .i64 x4, .int .i64 x5, .int .i64 x6, .int .i64 x7, .int .i64 x8, .int .i64 x9, .int .i64 x10, .int .i64 x11, .int .i64 0] rfl rfl HX1.out HX2.out ?c3 ?c4 ?c5 ?_))
                        clear c1_16 c2_0 c2_1 c2_2 c2_3 c2_4 c2_5 c2_6 c2_7 c2_8 c2_9 c2_10 c2_11 c2_12
                        case c3 => unfold maxLen; omega
                        case c4 => omega
                        case c5 => (first | omega | (simp; omega))
                        intro v5 y9 hin2 hgrow2 _
                        have HST := Lib.hid (show itS shapeE t167 (k + 1) = t199 by show shapeE (itS shapeE t167 k) = _; rw [← HS0.out]; unfold shapeE; rw [← HT189.out, ← HT191.out, ← Xx2.out, ← HT193.out, ← HT195.out, if_neg K0.out, if_pos K1.out, ← HT197.out, ← HT199.out])
                        have HSTEP : flatc 13 (itV shapeE shapeV 13 t167) (k + 1) = flatc 13 (itV shapeE shapeV 13 t167) k ++ [.int .i64 x0, .int .i64 (x1 : Int), .int .i64 (x2 : Int), .int .i64 x3, .int .i64 x4, .int .i64 x5, .int .i64 x6, .int .i64 x7, .int .i64 x8, .int .i64 x9, .int .i64 x10, .int .i64 x11, .int .i64 0] := by
                          rw [step_shape, ← HS0.out]
                          congr 1
                          have hV : ∀ j, shapeV s0 j = [x0, (x1 : Int), (x2 : Int), x3, x4, x5, x6, x7, x8, x9, x10, x11, 0].getD j 0 := fun j => by
                            unfold shapeV
                            rw [← Xx0.out, ← HT189.out, ← Xx1.out, ← HT191.out, ← Xx2.out, ← HT193.out, ← Xx3.out, ← Xx4.out, ← Xx5.out, ← HT195.out, ← Xx6.out, ← Xx7.out, ← Xx8.out, ← HT197.out, ← Xx9.out, ← Xx10.out, ← Xx11.out]
                            simp only [if_pos K1.out, if_neg K0.out]
                          simp only [hV]
                          rfl
                        rw [← HSTEP] at hin2
                        clear HSTEP
                        obtain ⟨fa, fc, hfv⟩ := Sc.own_form hin2
                        subst hfv
                        have hbx := Ve.below_n1 y200 (.cells #[.int .i64 x0, .int .i64 (x1 : Int), .int .i64 (x2 : Int), .int .i64 x3, .int .i64 x4, .int .i64 x5, .int .i64 x6, .int .i64 x7, .int .i64 x8, .int .i64 x9, .int .i64 x10, .int .i64 x11, .int .i64 0] 85)
                        have hq9 := fun q hq => (HO200.out.lt q hq).1
                        have hsx := hbx.size
                        have hr9_0 := (hgrow2.block _ (Nat.lt_of_lt_of_le (lt_heap hr200_0) hsx) (fun e => by have := hq9 _ e.symm; omega)).trans ((hbx.block _ (lt_heap hr200_0)).trans hr200_0)
                        have hr9_1 := (hgrow2.block _ (Nat.lt_of_lt_of_le (lt_heap hr200_1) hsx) (fun e => by have := hq9 _ e.symm; omega)).trans ((hbx.block _ (lt_heap hr200_1)).trans hr200_1)
                        have hU9 := (HU200.out.trans (hbx.mono HU200.out.size)).grown hgrow2 (by have := HU200.out.size; omega) (fun q hq => by have := hq9 q hq; omega)
                        have hP9 := mat_near (HP200.out.on hbx) ((Below.refl (g + 1) _).grown hgrow2 (by omega) (fun q hq => by have := hq9 q hq; omega))
                        have hs9 := hgrow2.size
                        have cS := cell_of_row _ _ 16 _ _ _ hr9_1
                        simp at cS
                        have fz : ∀ j, y9.frozen? ⟨y20.heap.size, j, none⟩ = false := fun j => by simp [World.frozen?, hr9_1]
                        go_wp2_with fail
                        clear fz cS
                        have hN : (y9.setCell ⟨y20.heap.size, 16, none⟩ (.slice fa (k + 1) fc)).heap[y20.heap.size]? = some (.cells #[.int .i64 (a1 : Int), .int .i64 (a2 : Int), .int .i64 (a3 : Int), .int .i64 (a4 : Int), .int .i64 (a5 : Int), .int .i64 a6, .int .u64 (sd : Int), .int .i64 r1, .int .i64 r2, .int .i64 r3, .int .i64 (e1 : Int), .int .i64 (e2 : Int), .int .i64 e3, vS87, vS127, vS167, .slice fa (k + 1) fc] 49 (0, 0)) := heap_setCell_same _ _ 16 _ _ _ hr9_1
                        have hO : ∀ kk, kk ≠ y20.heap.size → (y9.setCell ⟨y20.heap.size, 16, none⟩ (.slice fa (k + 1) fc)).heap[kk]? = y9.heap[kk]? := fun kk hk => Below.heap_setCell _ _ _ _ hk
                        have HUx : Below w.heap.size w (y9.setCell ⟨y20.heap.size, 16, none⟩ (.slice fa (k + 1) fc)) := hU9.setCell (by show w.heap.size ≤ y20.heap.size; omega) _
                        have hPx := hP9.setFar (b := y20.heap.size) (by omega) 16 (.slice fa (k + 1) fc)
                        have hr0x := (hO _ (by omega)).trans hr9_0
                        have HOx := Lib.hid (own_via (w' := (y9.setCell ⟨y20.heap.size, 16, none⟩ (.slice fa (k + 1) fc))) hin2 fun q hq => hO q (by have := (hin2.lt q hq).1; omega))
                        have HKx := Lib.hid (fun q (h1 : b0 ≤ q) (h2 : q < b167) => (hO q (by omega)).trans ((hgrow2.block q (by omega) (fun e => by have := hq9 _ e.symm; omega)).trans ((hbx.block q (by omega)).trans (HK200.out q h1 h2))))
                        go_roundw
                        case rel => exact ⟨k + 1, .slice fa (k + 1) fc, by omega, by go_num, hr0x, hN, HOx, Lib.hid (by rw [HST.out]; exact hPx), Lib.hid HUx, by simp; omega, HKx⟩
                        case measure => simp [intOf]; omega
                      · have d3 : ((x2 : Int) == 1) = false := by simpa using k1
                        have d4 := decide_eq_false k1
                        have K0 := Lib.hid k0
                        have K1 := Lib.hid k1
                        clear k0 k1
                        have c2_2 := cell_of_row _ _ 2 _ _ _ hr196_2
                        simp at c2_2
                        go_upto_region 67 with fail
                        clear d1 d2 d3 d4
                        clear c2_2
                        obtain ⟨he, hf, -, -⟩ := HP196.out.err
                        obtain ⟨tl, te'⟩ := t195
                        have he : y196.cell? ⟨g, 2, none⟩ = some (.int .i64 te') := he
                        by_cases e0 : te' = 0
                        · subst e0
                          go_upto_region 74 with fail
                          have hO : ∀ kk, kk ≠ g → (y196.setCell ⟨g, 2, none⟩ (.int .i64 25)).heap[kk]? = y196.heap[kk]? := fun kk hk => Below.heap_setCell _ _ _ _ hk
                          have HUx : Below w.heap.size w (y196.setCell ⟨g, 2, none⟩ (.int .i64 25)) := HU196.out.setCell (by show w.heap.size ≤ g; omega) _
                          have hPx := HP196.out.setErr 25
                          have hzx : y196.heap.size ≤ (y196.setCell ⟨g, 2, none⟩ (.int .i64 25)).heap.size := by simp
                          obtain ⟨y197, hy197⟩ : ∃ y, y196.setCell ⟨g, 2, none⟩ (.int .i64 25) = y := ⟨_, rfl⟩
                          rw [hy197] at hO HUx hPx hzx ⊢
                          clear hy197
                          have HU197 := Lib.hid HUx
                          have HP197 := Lib.hid hPx
                          have hz197 := hzx
                          have hr197_0 := (hO _ (by omega)).trans hr196_0
                          have hr197_1 := (hO _ (by omega)).trans hr196_1
                          have hr197_2 := (hO _ (by omega)).trans hr196_2
                          have HK197 := Lib.hid (fun q (h1 : b0 ≤ q) (h2 : q < b167) => (hO q (by omega)).trans (HK196.out q h1 h2))
                          clear HK196
                          have HO197 := Lib.hid (own_via (w' := y197) HO196.out fun q hq => hO q (by have := (HO196.out.lt q hq).1; omega))
                          clear HO196
                          clear hO HUx hPx hzx HP196
                          clear hr196_0 hr196_1 hr196_2 HU196
                          obtain ⟨i0, hi, hz0, hz1, hz2⟩ := info_parts dinfo_shape
                          have c1_16 := cell_of_row _ _ 16 _ _ _ hr197_1
                          have c2_0 := cell_of_row _ _ 0 _ _ _ hr197_2
                          have c2_1 := cell_of_row _ _ 1 _ _ _ hr197_2
                          have c2_2 := cell_of_row _ _ 2 _ _ _ hr197_2
                          have c2_3 := cell_of_row _ _ 3 _ _ _ hr197_2
                          have c2_4 := cell_of_row _ _ 4 _ _ _ hr197_2
                          have c2_5 := cell_of_row _ _ 5 _ _ _ hr197_2
                          have c2_6 := cell_of_row _ _ 6 _ _ _ hr197_2
                          have c2_7 := cell_of_row _ _ 7 _ _ _ hr197_2
                          have c2_8 := cell_of_row _ _ 8 _ _ _ hr197_2
                          have c2_9 := cell_of_row _ _ 9 _ _ _ hr197_2
                          have c2_10 := cell_of_row _ _ 10 _ _ _ hr197_2
                          have c2_11 := cell_of_row _ _ 11 _ _ _ hr197_2
                          have c2_12 := cell_of_row _ _ 12 _ _ _ hr197_2
                          simp at c1_16 c2_0 c2_1 c2_2 c2_3 c2_4 c2_5 c2_6 c2_7 c2_8 c2_9 c2_10 c2_11 c2_12
                          have HI := Lib.hid (HO197.out.alloc (.cells #[.int .i64 x0, .int .i64 (x1 : Int), .int .i64 (x2 : Int), .int .i64 x3, .int .i64 x4, .int .i64 x5, .int .i64 0, .int .i64 0, .int .i64 0, .int .i64 0, .int .i64 0, .int .i64 0, .int .i64 0] 85))
                          have hsm : k * 1352 ≤ 1000000 := by omega
                          have hx1 : ∀ j u, ([.int .i64 x0, .int .i64 (x1 : Int), .int .i64 (x2 : Int), .int .i64 x3, .int .i64 x4, .int .i64 x5, .int .i64 0, .int .i64 0, .int .i64 0, .int .i64 0, .int .i64 0, .int .i64 0, .int .i64 0] : List Value)[j]? = some u → (y197.alloc (.cells #[.int .i64 x0, .int .i64 (x1 : Int), .int .i64 (x2 : Int), .int .i64 x3, .int .i64 x4, .int .i64 x5, .int .i64 0, .int .i64 0, .int .i64 0, .int .i64 0, .int .i64 0, .int .i64 0, .int .i64 0] 85)).cell? ((⟨y197.heap.size, 0, none⟩ : Addr).add j) = some u := by
                            intro j u hj
                            match j, hj with
                            | 0, hj => simp at hj; subst hj; simp [Addr.add]
                            | 1, hj => simp at hj; subst hj; simp [Addr.add]
                            | 2, hj => simp at hj; subst hj; simp [Addr.add]
                            | 3, hj => simp at hj; subst hj; simp [Addr.add]
                            | 4, hj => simp at hj; subst hj; simp [Addr.add]
                            | 5, hj => simp at hj; subst hj; simp [Addr.add]
                            | 6, hj => simp at hj; subst hj; simp [Addr.add]
                            | 7, hj => simp at hj; subst hj; simp [Addr.add]
                            | 8, hj => simp at hj; subst hj; simp [Addr.add]
                            | 9, hj => simp at hj; subst hj; simp [Addr.add]
                            | 10, hj => simp at hj; subst hj; simp [Addr.add]
                            | 11, hj => simp at hj; subst hj; simp [Addr.add]
                            | 12, hj => simp at hj; subst hj; simp [Addr.add]
                          have HX1 := Lib.hid hx1
                          clear hx1
                          have HX2 := Lib.hid (show ∀ u ∈ ([.int .i64 x0, .int .i64 (x1 : Int), .int .i64 (x2 : Int), .int .i64 x3, .int .i64 x4, .int .i64 x5, .int .i64 0, .int .i64 0, .int .i64 0, .int .i64 0, .int .i64 0, .int .i64 0, .int .i64 0] : List Value), u.oneCell' = true by intro u hu; simp only [List.mem_cons, List.not_mem_nil, or_false] at hu; rcases hu with rfl | rfl | rfl | rfl | rfl | rfl | rfl | rfl | rfl | rfl | rfl | rfl | rfl <;> rfl)
                          go_wp2_with (first | (at_builtin; refine wpList_append_own _ rfl _ _ 47 rfl b167 85 i0 (.agg #[.int .i64 0, .int .i64 0, .int .i64 0, .int .i64 0, .int .i64 0, .int .i64 0, .int .i64 0, .int .i64 0, .int .i64 0, .int .i64 0, .int .i64 0, .int .i64 0, .int .i64 0]) 13 104 Tryz.underlying47 hi hz0 hz1 hz2 rfl (by decide) _ _ _ rfl HI.out ⟨y197.heap.size, 0, none⟩ 1 1 [.int .i64 x0, .int .i64 (x1 : Int), .int .i64 (x2 : Int), .int .i64 x3, .int .i64 x4, .int .i64 x5, .int .i64 0, .int .i64 0, .int .i64 0, .int .i64 0, .int .i64 0, .int .i64 0, .int .i64 0] rfl rfl HX1.out HX2.out ?c3 ?c4 ?c5 ?_))
                          clear c1_16 c2_0 c2_1 c2_2 c2_3 c2_4 c2_5 c2_6 c2_7 c2_8 c2_9 c2_10 c2_11 c2_12
                          case c3 => unfold maxLen; omega
                          case c4 => omega
                          case c5 => (first | omega | (simp; omega))
                          intro v5 y9 hin2 hgrow2 _
                          have HST := Lib.hid (show itS shapeE t167 (k + 1) = (tl, 25) by show shapeE (itS shapeE t167 k) = _; rw [← HS0.out]; unfold shapeE; rw [← HT189.out, ← HT191.out, ← Xx2.out, ← HT193.out, ← HT195.out, if_neg K0.out, if_neg K1.out]; rfl)
                          have HSTEP : flatc 13 (itV shapeE shapeV 13 t167) (k + 1) = flatc 13 (itV shapeE shapeV 13 t167) k ++ [.int .i64 x0, .int .i64 (x1 : Int), .int .i64 (x2 : Int), .int .i64 x3, .int .i64 x4, .int .i64 x5, .int .i64 0, .int .i64 0, .int .i64 0, .int .i64 0, .int .i64 0, .int .i64 0, .int .i64 0] := by
                            rw [step_shape, ← HS0.out]
                            congr 1
                            have hV : ∀ j, shapeV s0 j = [x0, (x1 : Int), (x2 : Int), x3, x4, x5, 0, 0, 0, 0, 0, 0, 0].getD j 0 := fun j => by
                              unfold shapeV
                              rw [← Xx0.out, ← HT189.out, ← Xx1.out, ← HT191.out, ← Xx2.out, ← HT193.out, ← Xx3.out, ← Xx4.out, ← Xx5.out, ← HT195.out]
                              simp only [if_neg K1.out, if_neg K0.out]
                            simp only [hV]
                            rfl
                          rw [← HSTEP] at hin2
                          clear HSTEP
                          obtain ⟨fa, fc, hfv⟩ := Sc.own_form hin2
                          subst hfv
                          have hbx := Ve.below_n1 y197 (.cells #[.int .i64 x0, .int .i64 (x1 : Int), .int .i64 (x2 : Int), .int .i64 x3, .int .i64 x4, .int .i64 x5, .int .i64 0, .int .i64 0, .int .i64 0, .int .i64 0, .int .i64 0, .int .i64 0, .int .i64 0] 85)
                          have hq9 := fun q hq => (HO197.out.lt q hq).1
                          have hsx := hbx.size
                          have hr9_0 := (hgrow2.block _ (Nat.lt_of_lt_of_le (lt_heap hr197_0) hsx) (fun e => by have := hq9 _ e.symm; omega)).trans ((hbx.block _ (lt_heap hr197_0)).trans hr197_0)
                          have hr9_1 := (hgrow2.block _ (Nat.lt_of_lt_of_le (lt_heap hr197_1) hsx) (fun e => by have := hq9 _ e.symm; omega)).trans ((hbx.block _ (lt_heap hr197_1)).trans hr197_1)
                          have hU9 := (HU197.out.trans (hbx.mono HU197.out.size)).grown hgrow2 (by have := HU197.out.size; omega) (fun q hq => by have := hq9 q hq; omega)
                          have hP9 := mat_near (HP197.out.on hbx) ((Below.refl (g + 1) _).grown hgrow2 (by omega) (fun q hq => by have := hq9 q hq; omega))
                          have hs9 := hgrow2.size
                          have cS := cell_of_row _ _ 16 _ _ _ hr9_1
                          simp at cS
                          have fz : ∀ j, y9.frozen? ⟨y20.heap.size, j, none⟩ = false := fun j => by simp [World.frozen?, hr9_1]
                          go_wp2_with fail
                          clear fz cS
                          have hN : (y9.setCell ⟨y20.heap.size, 16, none⟩ (.slice fa (k + 1) fc)).heap[y20.heap.size]? = some (.cells #[.int .i64 (a1 : Int), .int .i64 (a2 : Int), .int .i64 (a3 : Int), .int .i64 (a4 : Int), .int .i64 (a5 : Int), .int .i64 a6, .int .u64 (sd : Int), .int .i64 r1, .int .i64 r2, .int .i64 r3, .int .i64 (e1 : Int), .int .i64 (e2 : Int), .int .i64 e3, vS87, vS127, vS167, .slice fa (k + 1) fc] 49 (0, 0)) := heap_setCell_same _ _ 16 _ _ _ hr9_1
                          have hO : ∀ kk, kk ≠ y20.heap.size → (y9.setCell ⟨y20.heap.size, 16, none⟩ (.slice fa (k + 1) fc)).heap[kk]? = y9.heap[kk]? := fun kk hk => Below.heap_setCell _ _ _ _ hk
                          have HUx : Below w.heap.size w (y9.setCell ⟨y20.heap.size, 16, none⟩ (.slice fa (k + 1) fc)) := hU9.setCell (by show w.heap.size ≤ y20.heap.size; omega) _
                          have hPx := hP9.setFar (b := y20.heap.size) (by omega) 16 (.slice fa (k + 1) fc)
                          have hr0x := (hO _ (by omega)).trans hr9_0
                          have HOx := Lib.hid (own_via (w' := (y9.setCell ⟨y20.heap.size, 16, none⟩ (.slice fa (k + 1) fc))) hin2 fun q hq => hO q (by have := (hin2.lt q hq).1; omega))
                          have HKx := Lib.hid (fun q (h1 : b0 ≤ q) (h2 : q < b167) => (hO q (by omega)).trans ((hgrow2.block q (by omega) (fun e => by have := hq9 _ e.symm; omega)).trans ((hbx.block q (by omega)).trans (HK197.out q h1 h2))))
                          go_roundw
                          case rel => exact ⟨k + 1, .slice fa (k + 1) fc, by omega, by go_num, hr0x, hN, HOx, Lib.hid (by rw [HST.out]; exact hPx), Lib.hid HUx, by simp; omega, HKx⟩
                          case measure => simp [intOf]; omega
                        · have d1 : (te' == 0) = false := by simpa using e0
                          have d2 := decide_eq_false e0
                          go_upto_region 74 with fail
                          clear d1 d2
                          obtain ⟨i0, hi, hz0, hz1, hz2⟩ := info_parts dinfo_shape
                          have c1_16 := cell_of_row _ _ 16 _ _ _ hr196_1
                          have c2_0 := cell_of_row _ _ 0 _ _ _ hr196_2
                          have c2_1 := cell_of_row _ _ 1 _ _ _ hr196_2
                          have c2_2 := cell_of_row _ _ 2 _ _ _ hr196_2
                          have c2_3 := cell_of_row _ _ 3 _ _ _ hr196_2
                          have c2_4 := cell_of_row _ _ 4 _ _ _ hr196_2
                          have c2_5 := cell_of_row _ _ 5 _ _ _ hr196_2
                          have c2_6 := cell_of_row _ _ 6 _ _ _ hr196_2
                          have c2_7 := cell_of_row _ _ 7 _ _ _ hr196_2
                          have c2_8 := cell_of_row _ _ 8 _ _ _ hr196_2
                          have c2_9 := cell_of_row _ _ 9 _ _ _ hr196_2
                          have c2_10 := cell_of_row _ _ 10 _ _ _ hr196_2
                          have c2_11 := cell_of_row _ _ 11 _ _ _ hr196_2
                          have c2_12 := cell_of_row _ _ 12 _ _ _ hr196_2
                          simp at c1_16 c2_0 c2_1 c2_2 c2_3 c2_4 c2_5 c2_6 c2_7 c2_8 c2_9 c2_10 c2_11 c2_12
                          have HI := Lib.hid (HO196.out.alloc (.cells #[.int .i64 x0, .int .i64 (x1 : Int), .int .i64 (x2 : Int), .int .i64 x3, .int .i64 x4, .int .i64 x5, .int .i64 0, .int .i64 0, .int .i64 0, .int .i64 0, .int .i64 0, .int .i64 0, .int .i64 0] 85))
                          have hsm : k * 1352 ≤ 1000000 := by omega
                          have hx1 : ∀ j u, ([.int .i64 x0, .int .i64 (x1 : Int), .int .i64 (x2 : Int), .int .i64 x3, .int .i64 x4, .int .i64 x5, .int .i64 0, .int .i64 0, .int .i64 0, .int .i64 0, .int .i64 0, .int .i64 0, .int .i64 0] : List Value)[j]? = some u → (y196.alloc (.cells #[.int .i64 x0, .int .i64 (x1 : Int), .int .i64 (x2 : Int), .int .i64 x3, .int .i64 x4, .int .i64 x5, .int .i64 0, .int .i64 0, .int .i64 0, .int .i64 0, .int .i64 0, .int .i64 0, .int .i64 0] 85)).cell? ((⟨y196.heap.size, 0, none⟩ : Addr).add j) = some u := by
                            intro j u hj
                            match j, hj with
                            | 0, hj => simp at hj; subst hj; simp [Addr.add]
                            | 1, hj => simp at hj; subst hj; simp [Addr.add]
                            | 2, hj => simp at hj; subst hj; simp [Addr.add]
                            | 3, hj => simp at hj; subst hj; simp [Addr.add]
                            | 4, hj => simp at hj; subst hj; simp [Addr.add]
                            | 5, hj => simp at hj; subst hj; simp [Addr.add]
                            | 6, hj => simp at hj; subst hj; simp [Addr.add]
                            | 7, hj => simp at hj; subst hj; simp [Addr.add]
                            | 8, hj => simp at hj; subst hj; simp [Addr.add]
                            | 9, hj => simp at hj; subst hj; simp [Addr.add]
                            | 10, hj => simp at hj; subst hj; simp [Addr.add]
                            | 11, hj => simp at hj; subst hj; simp [Addr.add]
                            | 12, hj => simp at hj; subst hj; simp [Addr.add]
                          have HX1 := Lib.hid hx1
                          clear hx1
                          have HX2 := Lib.hid (show ∀ u ∈ ([.int .i64 x0, .int .i64 (x1 : Int), .int .i64 (x2 : Int), .int .i64 x3, .int .i64 x4, .int .i64 x5, .int .i64 0, .int .i64 0, .int .i64 0, .int .i64 0, .int .i64 0, .int .i64 0, .int .i64 0] : List Value), u.oneCell' = true by intro u hu; simp only [List.mem_cons, List.not_mem_nil, or_false] at hu; rcases hu with rfl | rfl | rfl | rfl | rfl | rfl | rfl | rfl | rfl | rfl | rfl | rfl | rfl <;> rfl)
                          go_wp2_with (first | (at_builtin; refine wpList_append_own _ rfl _ _ 47 rfl b167 85 i0 (.agg #[.int .i64 0, .int .i64 0, .int .i64 0, .int .i64 0, .int .i64 0, .int .i64 0, .int .i64 0, .int .i64 0, .int .i64 0, .int .i64 0, .int .i64 0, .int .i64 0, .int .i64 0]) 13 104 Tryz.underlying47 hi hz0 hz1 hz2 rfl (by decide) _ _ _ rfl HI.out ⟨y196.heap.size, 0, none⟩ 1 1 [.int .i64 x0, .int .i64 (x1 : Int), .int .i64 (x2 : Int), .int .i64 x3, .int .i64 x4, .int .i64 x5, .int .i64 0, .int .i64 0, .int .i64 0, .int .i64 0, .int .i64 0, .int .i64 0, .int .i64 0] rfl rfl HX1.out HX2.out ?c3 ?c4 ?c5 ?_))
                          clear c1_16 c2_0 c2_1 c2_2 c2_3 c2_4 c2_5 c2_6 c2_7 c2_8 c2_9 c2_10 c2_11 c2_12
                          case c3 => unfold maxLen; omega
                          case c4 => omega
                          case c5 => (first | omega | (simp; omega))
                          intro v5 y9 hin2 hgrow2 _
                          have HST := Lib.hid (show itS shapeE t167 (k + 1) = (tl, te') by show shapeE (itS shapeE t167 k) = _; rw [← HS0.out]; unfold shapeE; rw [← HT189.out, ← HT191.out, ← Xx2.out, ← HT193.out, ← HT195.out, if_neg K0.out, if_neg K1.out]; unfold failS; rw [if_neg e0])
                          have HSTEP : flatc 13 (itV shapeE shapeV 13 t167) (k + 1) = flatc 13 (itV shapeE shapeV 13 t167) k ++ [.int .i64 x0, .int .i64 (x1 : Int), .int .i64 (x2 : Int), .int .i64 x3, .int .i64 x4, .int .i64 x5, .int .i64 0, .int .i64 0, .int .i64 0, .int .i64 0, .int .i64 0, .int .i64 0, .int .i64 0] := by
                            rw [step_shape, ← HS0.out]
                            congr 1
                            have hV : ∀ j, shapeV s0 j = [x0, (x1 : Int), (x2 : Int), x3, x4, x5, 0, 0, 0, 0, 0, 0, 0].getD j 0 := fun j => by
                              unfold shapeV
                              rw [← Xx0.out, ← HT189.out, ← Xx1.out, ← HT191.out, ← Xx2.out, ← HT193.out, ← Xx3.out, ← Xx4.out, ← Xx5.out, ← HT195.out]
                              simp only [if_neg K1.out, if_neg K0.out]
                            simp only [hV]
                            rfl
                          rw [← HSTEP] at hin2
                          clear HSTEP
                          obtain ⟨fa, fc, hfv⟩ := Sc.own_form hin2
                          subst hfv
                          have hbx := Ve.below_n1 y196 (.cells #[.int .i64 x0, .int .i64 (x1 : Int), .int .i64 (x2 : Int), .int .i64 x3, .int .i64 x4, .int .i64 x5, .int .i64 0, .int .i64 0, .int .i64 0, .int .i64 0, .int .i64 0, .int .i64 0, .int .i64 0] 85)
                          have hq9 := fun q hq => (HO196.out.lt q hq).1
                          have hsx := hbx.size
                          have hr9_0 := (hgrow2.block _ (Nat.lt_of_lt_of_le (lt_heap hr196_0) hsx) (fun e => by have := hq9 _ e.symm; omega)).trans ((hbx.block _ (lt_heap hr196_0)).trans hr196_0)
                          have hr9_1 := (hgrow2.block _ (Nat.lt_of_lt_of_le (lt_heap hr196_1) hsx) (fun e => by have := hq9 _ e.symm; omega)).trans ((hbx.block _ (lt_heap hr196_1)).trans hr196_1)
                          have hU9 := (HU196.out.trans (hbx.mono HU196.out.size)).grown hgrow2 (by have := HU196.out.size; omega) (fun q hq => by have := hq9 q hq; omega)
                          have hP9 := mat_near (HP196.out.on hbx) ((Below.refl (g + 1) _).grown hgrow2 (by omega) (fun q hq => by have := hq9 q hq; omega))
                          have hs9 := hgrow2.size
                          have cS := cell_of_row _ _ 16 _ _ _ hr9_1
                          simp at cS
                          have fz : ∀ j, y9.frozen? ⟨y20.heap.size, j, none⟩ = false := fun j => by simp [World.frozen?, hr9_1]
                          go_wp2_with fail
                          clear fz cS
                          have hN : (y9.setCell ⟨y20.heap.size, 16, none⟩ (.slice fa (k + 1) fc)).heap[y20.heap.size]? = some (.cells #[.int .i64 (a1 : Int), .int .i64 (a2 : Int), .int .i64 (a3 : Int), .int .i64 (a4 : Int), .int .i64 (a5 : Int), .int .i64 a6, .int .u64 (sd : Int), .int .i64 r1, .int .i64 r2, .int .i64 r3, .int .i64 (e1 : Int), .int .i64 (e2 : Int), .int .i64 e3, vS87, vS127, vS167, .slice fa (k + 1) fc] 49 (0, 0)) := heap_setCell_same _ _ 16 _ _ _ hr9_1
                          have hO : ∀ kk, kk ≠ y20.heap.size → (y9.setCell ⟨y20.heap.size, 16, none⟩ (.slice fa (k + 1) fc)).heap[kk]? = y9.heap[kk]? := fun kk hk => Below.heap_setCell _ _ _ _ hk
                          have HUx : Below w.heap.size w (y9.setCell ⟨y20.heap.size, 16, none⟩ (.slice fa (k + 1) fc)) := hU9.setCell (by show w.heap.size ≤ y20.heap.size; omega) _
                          have hPx := hP9.setFar (b := y20.heap.size) (by omega) 16 (.slice fa (k + 1) fc)
                          have hr0x := (hO _ (by omega)).trans hr9_0
                          have HOx := Lib.hid (own_via (w' := (y9.setCell ⟨y20.heap.size, 16, none⟩ (.slice fa (k + 1) fc))) hin2 fun q hq => hO q (by have := (hin2.lt q hq).1; omega))
                          have HKx := Lib.hid (fun q (h1 : b0 ≤ q) (h2 : q < b167) => (hO q (by omega)).trans ((hgrow2.block q (by omega) (fun e => by have := hq9 _ e.symm; omega)).trans ((hbx.block q (by omega)).trans (HK196.out q h1 h2))))
                          go_roundw
                          case rel => exact ⟨k + 1, .slice fa (k + 1) fc, by omega, by go_num, hr0x, hN, HOx, Lib.hid (by rw [HST.out]; exact hPx), Lib.hid HUx, by simp; omega, HKx⟩
                          case measure => simp [intOf]; omega
                  · have d1 : (te == 0) = false := by simpa using h0
                    have d2 := decide_eq_false h0
                    have hkp : itS shapeE t167 ns = s0 := by rw [it_keep shape_keep (k := k) (by rw [← HS0.out, ← HTE.out]; exact h0) ns hk]; exact HS0.out.symm
                    go_wp2_with fail
                    go_meet
                    exact ⟨k, vS, hk, fun h => absurd (by rw [hkp, ← HTE.out] at h; exact h) h0, hr187_0, hr187_1, HO, Lib.hid (by rw [hkp]; exact HP187.out), HU187, hbr, HK⟩
                · have hkk : ns = k := by omega
                  subst hkk
                  go_wp2_with fail
                  go_meet
                  exact ⟨_, vS, hk, fun _ => rfl, hr187_0, hr187_1, HO, Lib.hid (by rw [← HS0.out]; exact HP187.out), HU187, hbr, HK⟩
            case rest =>
              obtain ⟨k207, vS207, hk207, hok207, hr207_0, hr207_1, HO207, HP207, HU207, hbr207, HKZ⟩ := hcut
              rename World => y207
              have HO87 := Lib.hid (own_via (w' := y207) HO87.out fun q hq => HKZ.out q (by have := (HO87.out.lt q hq).1; omega) (by have := (HO87.out.lt q hq).2; omega))
              have HX127 := Lib.hid (show ∃ xs, y207.ownsRow b87 77 2 vS127 k127 xs ∧ ((itS trackE t87 nt).2 = 0 → TrD b87 y207 t87 k127 xs) from by
                obtain ⟨xs, q1, q2⟩ := HX127.out
                exact ⟨xs, own_via q1 fun q hq => HKZ.out q (by have := (q1.lt q hq).1; omega) (by have := (q1.lt q hq).2; omega), fun e => (q2 e).heap fun q cs fr a b => HKZ.out q (by omega) (by have := lt_of_heap b; omega)⟩)
              have HO167 := Lib.hid (own_via (w' := y207) HO167.out fun q hq => HKZ.out q (by have := (HO167.out.lt q hq).1; omega) (by have := (HO167.out.lt q hq).2; omega))
              clear HKZ
              have hzz207 := HU207.out.size
              obtain ⟨t207, ht207⟩ : ∃ t : St, t = itS shapeE t167 ns := ⟨_, rfl⟩
              rw [← ht207] at HP207
              have HT207 := Lib.hid ht207
              clear ht207
              have hbE207 : b0 ≤ y207.heap.size := Nat.le_trans hbw167 hbr207
              (try clear hl0_0); (try clear hz0); (try clear hb1); (try clear hs1); (try clear hl1_0); (try clear hb2); (try clear hs2); (try clear hl2_0); (try clear hz2); (try clear hz20); (try clear hz21); (try clear hb21); (try clear hs21); (try clear hl21_0); (try clear hz22); (try clear hz23); (try clear hz24); (try clear hz25); (try clear hz26); (try clear hz27)
              (try clear hz28); (try clear hz29); (try clear hz30); (try clear hz31); (try clear hz32); (try clear hz33); (try clear hz34); (try clear hz35); (try clear hz36); (try clear hz37); (try clear hz38); (try clear hz39); (try clear hz40); (try clear hz41); (try clear hz42); (try clear hz43); (try clear hz44); (try clear hz45); (try clear hz46); (try clear hz47)
              (try clear hb0); (try clear hbu47); (try clear hbv47); (try clear hlx47_0); (try clear hlx47_1); (try clear hz67); (try clear hs0); (try clear hb68); (try clear hs68); (try clear hl68_0); (try clear hl68_1); (try clear hz68); (try clear hz69); (try clear hz70); (try clear hz71); (try clear hz72); (try clear hz73); (try clear hz74); (try clear hz1); (try clear hs9)
              (try clear hbr87); (try clear hzz87); (try clear hbu87); (try clear hbv87); (try clear hlx87); (try clear hz107); (try clear hb108); (try clear hs108); (try clear hl108_0); (try clear hl108_1); (try clear hz108); (try clear hz109); (try clear hz110); (try clear hz111); (try clear hbu111); (try clear hbv111); (try clear hlx111_0); (try clear hlx111_1); (try clear hlx111_2); (try clear hz131)
              (try clear hb132); (try clear hs132); (try clear hl132_0); (try clear hl132_1); (try clear hl132_2); (try clear hz132); (try clear hz133); (try clear hz134); (try clear hz135); (try clear hz3); (try clear hz136); (try clear hbr151); (try clear hzz151); (try clear hbr127); (try clear hzz127); (try clear hbu127); (try clear hbv127); (try clear hlx127_0); (try clear hlx127_1); (try clear hz147)
              (try clear hb148); (try clear hs148); (try clear hl148_0); (try clear hl148_1); (try clear hz148); (try clear hz149); (try clear hz150); (try clear hz151); (try clear hz152); (try clear hz153); (try clear hz154); (try clear hz155); (try clear hz156); (try clear hbr167); (try clear hzz167); (try clear hbu167); (try clear hbv167); (try clear hlx167_0); (try clear hlx167_1); (try clear hz187)
              (try clear hb188); (try clear hs188); (try clear hl188_0); (try clear hl188_1); (try clear hz188); (try clear hz189); (try clear hz190); (try clear hz191); (try clear hz192); (try clear hz193); (try clear hz194); (try clear hz195); (try clear hz196); (try clear hz197); (try clear hz198); (try clear hz199); (try clear hz200); (try clear hbr207); (try clear hzz207)
              have HEQ := Lib.hid (par_is _ _ _ _ _ _ _ _ _ _ _ _ _ _ _ _ _ _ _ _ _ _ _ _ _ _ _ _ _ _ _ _ _ _ _ _ _ _ HT20.out Xa1.out HT22.out Xa2.out HT24.out Xa3.out HT26.out Xa4.out HT28.out Xa5.out HT30.out Xa6.out HT32.out Xsd.out HT34.out Xr1.out Xr2.out Xr3.out HT36.out Xe1.out HT38.out Xe2.out HT40.out Xe3.out HT42.out Xnp.out HT44.out Xnt.out HT45.out Xnj.out HT46.out Xns.out HT47.out HT87.out HT127.out HT167.out HT207.out)
              go_wp2_with fail
              refine (mend_any g N ba bn bc l t207 _ HP207.out).mono ?_
              rintro e y208 ⟨rfl, hm, ha⟩
              have hr208_0 := (ha.block _ (lt_heap hr207_0) (lt_heap hr207_0) (by omega)).trans hr207_0
              have hr208_1 := (ha.block _ (lt_heap hr207_1) (lt_heap hr207_1) (by omega)).trans hr207_1
              have HK208 := Lib.hid (show ∀ q, b0 ≤ q → q < y207.heap.size → y208.heap[q]? = y207.heap[q]? from fun q h1 h2 => ha.block q h2 h2 (Nat.ne_of_gt (Nat.lt_of_lt_of_le hgb h1)))
              have hz208 := ha.size
              have HU208 := Lib.hid (HU207.out.trans (ha.below (by omega) (by omega) (by omega)))
              obtain ⟨t208, ht208⟩ : ∃ t : St, t = endS t207 := ⟨_, rfl⟩
              rw [← ht208] at hm
              have HT208 := Lib.hid ht208
              have HP208 := Lib.hid hm
              clear hm ha ht208 HP207
              clear hr207_0 hr207_1 HU207
              obtain ⟨er, her⟩ : ∃ er, er = (endS t207).2 := ⟨_, rfl⟩
              rw [← her]
              have HER := Lib.hid her
              clear her
              have HRE := Lib.hid (show readE l = er by unfold readE; rw [HEQ.out.2, ← HER.out])
              have hlen : ¬ 65536 < l.length := by omega
              by_cases e0 : er = 0
              · subst e0
                have q8 := end_none HER.out.symm
                have u7 := it_ok shape_keep (k := 0) (n := ns) (by rw [← HT207.out]; exact q8) (Nat.zero_le _)
                have q7 : t167.2 = 0 := u7
                have u6 := it_ok joint_keep (k := 0) (n := nj) (by rw [← HT167.out]; exact q7) (Nat.zero_le _)
                have q6 : t127.2 = 0 := u6
                have u5 := it_ok track_keep (k := 0) (n := nt) (by rw [← HT127.out]; exact q6) (Nat.zero_le _)
                have q5 : t87.2 = 0 := u5
                have kk87 := (hok87 (by rw [← HT87.out]; exact q5)).symm
                have kk127 := (hok127 (by rw [← HT127.out]; exact q6)).symm
                have kk167 := (hok167 (by rw [← HT167.out]; exact q7)).symm
                have kk207 := (hok207 (by rw [← HT207.out]; exact q8)).symm
                obtain ⟨xs, ho, htr⟩ := HX127.out
                have htr := htr (by rw [← HT127.out]; exact q6)
                subst kk87
                subst kk127
                subst kk167
                subst kk207
                have hP := HO87.out
                have hJ := HO167.out
                have hS := HO207.out
                obtain ⟨pa, pc, hf87⟩ := Sc.own_form hP
                subst hf87
                obtain ⟨ta, tc, hf127⟩ := Sc.own_form ho
                subst hf127
                obtain ⟨ja, jc, hf167⟩ := Sc.own_form hJ
                subst hf167
                obtain ⟨sa, sc, hf207⟩ := Sc.own_form hS
                subst hf207
                have wP : np * (5 * 8) ≤ 140737488351232 := by omega
                have wT : nt * 32 ≤ 140737488351232 := by omega
                have wJ : nj * (4 * 8) ≤ 140737488351232 := by omega
                have wS : ns * (13 * 8) ≤ 140737488351232 := by omega
                have HSC := Lib.hid (show ∀ w2 : World, (∀ q, b0 ≤ q → q < y207.heap.size → w2.heap[q]? = y207.heap[q]?) → Sc.ScAt w2 { w := (a1 : Int), h := (a2 : Int), sm := (a3 : Int), dp := (a4 : Int), fr := (a5 : Int), sh := a6, sd := sd, r := r1, g := r2, b := r3, ey := (e1 : Int), lk := (e2 : Int), wd := e3, np := np, P := itV paintE paintV 5 t47, nt := nt, way := fun i => trackW (itS trackE t87 i), kn := fun i => trackN (itS trackE t87 i), K := fun i => trackK (itS trackE t87 i), nj := nj, J := itV jointE jointV 4 t127, ns := ns, S := itV shapeE shapeV 13 t167 : Scn } ⟨pa, pc, ta, tc, ja, jc, sa, sc⟩ from fun w2 hk => ⟨nums_of hP (fun q a b => hk q (by omega) b) wP, tracks_of ho htr (fun q a b => hk q (by omega) b) wT, nums_of hJ (fun q a b => hk q (by omega) b) wJ, nums_of hS (fun q a b => hk q (by omega) b) wS, Nat.lt_of_lt_of_le lsd (by decide)⟩)
                clear hP hJ hS ho htr wP wT wJ wS
                obtain ⟨cc, hcc⟩ : ∃ c, (chk { w := (a1 : Int), h := (a2 : Int), sm := (a3 : Int), dp := (a4 : Int), fr := (a5 : Int), sh := a6, sd := sd, r := r1, g := r2, b := r3, ey := (e1 : Int), lk := (e2 : Int), wd := e3, np := np, P := itV paintE paintV 5 t47, nt := nt, way := fun i => trackW (itS trackE t87 i), kn := fun i => trackN (itS trackE t87 i), K := fun i => trackK (itS trackE t87 i), nj := nj, J := itV jointE jointV 4 t127, ns := ns, S := itV shapeE shapeV 13 t167 : Scn }).1 = c := ⟨_, rfl⟩
                obtain ⟨dd, hdd⟩ : ∃ c, (chk { w := (a1 : Int), h := (a2 : Int), sm := (a3 : Int), dp := (a4 : Int), fr := (a5 : Int), sh := a6, sd := sd, r := r1, g := r2, b := r3, ey := (e1 : Int), lk := (e2 : Int), wd := e3, np := np, P := itV paintE paintV 5 t47, nt := nt, way := fun i => trackW (itS trackE t87 i), kn := fun i => trackN (itS trackE t87 i), K := fun i => trackK (itS trackE t87 i), nj := nj, J := itV jointE jointV 4 t127, ns := ns, S := itV shapeE shapeV 13 t167 : Scn }).2 = c := ⟨_, rfl⟩
                have HCK := rcheck_any { w := (a1 : Int), h := (a2 : Int), sm := (a3 : Int), dp := (a4 : Int), fr := (a5 : Int), sh := a6, sd := sd, r := r1, g := r2, b := r3, ey := (e1 : Int), lk := (e2 : Int), wd := e3, np := np, P := itV paintE paintV 5 t47, nt := nt, way := fun i => trackW (itS trackE t87 i), kn := fun i => trackN (itS trackE t87 i), K := fun i => trackK (itS trackE t87 i), nj := nj, J := itV jointE jointV 4 t127, ns := ns, S := itV shapeE shapeV 13 t167 : Scn } ⟨pa, pc, ta, tc, ja, jc, sa, sc⟩ _ (HSC.out _ HK208.out)
                rw [hcc, hdd] at HCK
                replace HCK := Lib.hid HCK
                have HCC := Lib.hid (show (chk (parScn (l, 0))).1 = cc by rw [HEQ.out.1]; exact hcc)
                clear hcc hdd
                have HPE := Lib.hid (show parE l = cc by unfold parE; rw [if_neg hlen, if_pos HRE.out]; exact HCC.out)
                go_upto_region 77 with fail
                have HWL0 := Lib.hid hr208_1
                have HWZ0 := Lib.hid (show (Tryz.prog.info? 49).map (·.size) = some (#[.int .i64 (a1 : Int), .int .i64 (a2 : Int), .int .i64 (a3 : Int), .int .i64 (a4 : Int), .int .i64 (a5 : Int), .int .i64 a6, .int .u64 (sd : Int), .int .i64 r1, .int .i64 r2, .int .i64 r3, .int .i64 (e1 : Int), .int .i64 (e2 : Int), .int .i64 e3, .slice pa np pc, .slice ta nt tc, .slice ja nj jc, .slice sa ns sc] : Array Value).size by kernel_rfl)
                go_wp2_with (first | (with_reducible refine wpList_load_row rfl 49 (.tmp 8) rfl (y20.heap.size) rfl 49 #[.int .i64 (a1 : Int), .int .i64 (a2 : Int), .int .i64 (a3 : Int), .int .i64 (a4 : Int), .int .i64 (a5 : Int), .int .i64 a6, .int .u64 (sd : Int), .int .i64 r1, .int .i64 r2, .int .i64 r3, .int .i64 (e1 : Int), .int .i64 (e2 : Int), .int .i64 e3, .slice pa np pc, .slice ta nt tc, .slice ja nj jc, .slice sa ns sc] (0, 0) _ HWL0.out Tryz.underlying49 rfl HWZ0.out ?_))
                clear HWL0 HWZ0
                refine HCK.out.mono ?_
                rintro e y209 ⟨rfl, hb209⟩
                have hr209_0 := (hb209.block _ (lt_heap hr208_0)).trans hr208_0
                have hr209_1 := (hb209.block _ (lt_heap hr208_1)).trans hr208_1
                have HU209 := Lib.hid (HU208.out.trans (hb209.mono HU208.out.size))
                clear hr208_0 hr208_1 HU208
                have HSF := Lib.hid (fun (w2 : World) (hk : ∀ q, b0 ≤ q → q < y207.heap.size → w2.heap[q]? = y209.heap[q]?) => HSC.out w2 fun q h1 h2 => (hk q h1 h2).trans ((hb209.block q (by omega)).trans (HK208.out q h1 h2)))
                by_cases c0 : cc = 0
                · subst c0
                  go_upto_region 80 with fail
                  have HWL0 := Lib.hid hr209_1
                  have HWZ0 := Lib.hid (show (Tryz.prog.info? 49).map (·.size) = some (#[.int .i64 (a1 : Int), .int .i64 (a2 : Int), .int .i64 (a3 : Int), .int .i64 (a4 : Int), .int .i64 (a5 : Int), .int .i64 a6, .int .u64 (sd : Int), .int .i64 r1, .int .i64 r2, .int .i64 r3, .int .i64 (e1 : Int), .int .i64 (e2 : Int), .int .i64 e3, .slice pa np pc, .slice ta nt tc, .slice ja nj jc, .slice sa ns sc] : Array Value).size by kernel_rfl)
                  have hHr := Lib.hid hr209_0
                  have hHi := Lib.hid (show (Tryz.prog.info? 49).map (·.size) = some (#[.int .i64 (a1 : Int), .int .i64 (a2 : Int), .int .i64 (a3 : Int), .int .i64 (a4 : Int), .int .i64 (a5 : Int), .int .i64 a6, .int .u64 (sd : Int), .int .i64 r1, .int .i64 r2, .int .i64 r3, .int .i64 (e1 : Int), .int .i64 (e2 : Int), .int .i64 e3, .slice pa np pc, .slice ta nt tc, .slice ja nj jc, .slice sa ns sc] : Array Value).size by kernel_rfl)
                  have hHz := Lib.hid (show (#[.int .i64 0, .int .i64 0, .int .i64 0, .int .i64 0, .int .i64 0, .int .i64 0, .int .u64 0, .int .i64 0, .int .i64 0, .int .i64 0, .int .i64 0, .int .i64 0, .int .i64 0, .slice none 0 0, .slice none 0 0, .slice none 0 0, .slice none 0 0] : Array Value).size = (#[.int .i64 (a1 : Int), .int .i64 (a2 : Int), .int .i64 (a3 : Int), .int .i64 (a4 : Int), .int .i64 (a5 : Int), .int .i64 a6, .int .u64 (sd : Int), .int .i64 r1, .int .i64 r2, .int .i64 r3, .int .i64 (e1 : Int), .int .i64 (e2 : Int), .int .i64 e3, .slice pa np pc, .slice ta nt tc, .slice ja nj jc, .slice sa ns sc] : Array Value).size from rfl)
                  have hHo := Lib.hid (show (#[.int .i64 (a1 : Int), .int .i64 (a2 : Int), .int .i64 (a3 : Int), .int .i64 (a4 : Int), .int .i64 (a5 : Int), .int .i64 a6, .int .u64 (sd : Int), .int .i64 r1, .int .i64 r2, .int .i64 r3, .int .i64 (e1 : Int), .int .i64 (e2 : Int), .int .i64 e3, .slice pa np pc, .slice ta nt tc, .slice ja nj jc, .slice sa ns sc] : Array Value).all (·.oneCell') = true by simp [Value.oneCell'])
                  go_wp2_with (first | (with_reducible refine wpList_load_row rfl 49 (.tmp 8) rfl (y20.heap.size) rfl 49 #[.int .i64 (a1 : Int), .int .i64 (a2 : Int), .int .i64 (a3 : Int), .int .i64 (a4 : Int), .int .i64 (a5 : Int), .int .i64 a6, .int .u64 (sd : Int), .int .i64 r1, .int .i64 r2, .int .i64 r3, .int .i64 (e1 : Int), .int .i64 (e2 : Int), .int .i64 e3, .slice pa np pc, .slice ta nt tc, .slice ja nj jc, .slice sa ns sc] (0, 0) _ HWL0.out Tryz.underlying49 rfl HWZ0.out ?_) | (refine Au.wpList_store_row rfl 49 (.tmp 2) (.tmp 288) rfl y209 #[.int .i64 0, .int .i64 0, .int .i64 0, .int .i64 0, .int .i64 0, .int .i64 0, .int .u64 0, .int .i64 0, .int .i64 0, .int .i64 0, .int .i64 0, .int .i64 0, .int .i64 0, .slice none 0 0, .slice none 0 0, .slice none 0 0, .slice none 0 0] #[.int .i64 (a1 : Int), .int .i64 (a2 : Int), .int .i64 (a3 : Int), .int .i64 (a4 : Int), .int .i64 (a5 : Int), .int .i64 a6, .int .u64 (sd : Int), .int .i64 r1, .int .i64 r2, .int .i64 r3, .int .i64 (e1 : Int), .int .i64 (e2 : Int), .int .i64 e3, .slice pa np pc, .slice ta nt tc, .slice ja nj jc, .slice sa ns sc] (w.heap.size) 49 hHr.out rfl rfl hHi.out hHz.out hHo.out ?_))
                  clear hHr hHi hHz hHo
                  have hN := setRow_heap _ (w.heap.size) _ #[.int .i64 (a1 : Int), .int .i64 (a2 : Int), .int .i64 (a3 : Int), .int .i64 (a4 : Int), .int .i64 (a5 : Int), .int .i64 a6, .int .u64 (sd : Int), .int .i64 r1, .int .i64 r2, .int .i64 r3, .int .i64 (e1 : Int), .int .i64 (e2 : Int), .int .i64 e3, .slice pa np pc, .slice ta nt tc, .slice ja nj jc, .slice sa ns sc] _ _ hr209_0
                  have hsz := HU209.out.size
                  have HUx := below_setRow (g := w.heap.size) HU209.out (by first | omega | (simp at *; omega)) #[.int .i64 (a1 : Int), .int .i64 (a2 : Int), .int .i64 (a3 : Int), .int .i64 (a4 : Int), .int .i64 (a5 : Int), .int .i64 a6, .int .u64 (sd : Int), .int .i64 r1, .int .i64 r2, .int .i64 r3, .int .i64 (e1 : Int), .int .i64 (e2 : Int), .int .i64 e3, .slice pa np pc, .slice ta nt tc, .slice ja nj jc, .slice sa ns sc]
                  have hO : ∀ kk, kk ≠ w.heap.size → (y209.setRow (w.heap.size) #[.int .i64 (a1 : Int), .int .i64 (a2 : Int), .int .i64 (a3 : Int), .int .i64 (a4 : Int), .int .i64 (a5 : Int), .int .i64 a6, .int .u64 (sd : Int), .int .i64 r1, .int .i64 r2, .int .i64 r3, .int .i64 (e1 : Int), .int .i64 (e2 : Int), .int .i64 e3, .slice pa np pc, .slice ta nt tc, .slice ja nj jc, .slice sa ns sc]).heap[kk]? = y209.heap[kk]? := fun kk hk => setRow_other _ _ _ _ hk
                  obtain ⟨y210, hy210⟩ : ∃ y, y209.setRow (w.heap.size) #[.int .i64 (a1 : Int), .int .i64 (a2 : Int), .int .i64 (a3 : Int), .int .i64 (a4 : Int), .int .i64 (a5 : Int), .int .i64 a6, .int .u64 (sd : Int), .int .i64 r1, .int .i64 r2, .int .i64 r3, .int .i64 (e1 : Int), .int .i64 (e2 : Int), .int .i64 e3, .slice pa np pc, .slice ta nt tc, .slice ja nj jc, .slice sa ns sc] = y := ⟨_, rfl⟩
                  rw [hy210] at hN HUx hO ⊢
                  clear hy210 hsz
                  have HU210 := Lib.hid HUx
                  clear HUx
                  have hr210_0 := hN
                  have hr210_1 := (hO _ (by omega)).trans hr209_1
                  have HSO := Lib.hid hO; clear hN hO
                  clear hr209_0 hr209_1 HU209
                  have HSE := Lib.hid (HSF.out y210 fun q h1 h2 => HSO.out q (by omega))
                  go_wp2
                  exact bodyPost_ret (v := .tuple #[.agg #[.int .i64 (a1 : Int), .int .i64 (a2 : Int), .int .i64 (a3 : Int), .int .i64 (a4 : Int), .int .i64 (a5 : Int), .int .i64 a6, .int .u64 (sd : Int), .int .i64 r1, .int .i64 r2, .int .i64 r3, .int .i64 (e1 : Int), .int .i64 (e2 : Int), .int .i64 e3, .slice pa np pc, .slice ta nt tc, .slice ja nj jc, .slice sa ns sc], .int .i64 0]) (results_row2 (t := 49) Tryz.results5 rfl rfl hr210_0 Tryz.underlying49 rfl dinfo_scene) rfl ⟨.inr ⟨HPE.out, ⟨pa, pc, ta, tc, ja, jc, sa, sc⟩, by first | (rw [HEQ.out.1]; done) | (rw [HEQ.out.1]; rfl), by rw [HEQ.out.1]; exact HSE.out⟩, HU210.out⟩
                · have d1 : (cc == 0) = false := by simpa using c0
                  have d2 : (cc != 0) = true := by simp [c0]
                  go_upto_region 79 with fail
                  have hHr := Lib.hid hr209_0
                  have hHi := Lib.hid (show (Tryz.prog.info? 49).map (·.size) = some (#[.int .i64 0, .int .i64 0, .int .i64 0, .int .i64 0, .int .i64 0, .int .i64 0, .int .u64 0, .int .i64 0, .int .i64 0, .int .i64 0, .int .i64 0, .int .i64 0, .int .i64 0, .slice none 0 0, .slice none 0 0, .slice none 0 0, .slice none 0 0] : Array Value).size by kernel_rfl)
                  have hHz := Lib.hid (show (#[.int .i64 0, .int .i64 0, .int .i64 0, .int .i64 0, .int .i64 0, .int .i64 0, .int .u64 0, .int .i64 0, .int .i64 0, .int .i64 0, .int .i64 0, .int .i64 0, .int .i64 0, .slice none 0 0, .slice none 0 0, .slice none 0 0, .slice none 0 0] : Array Value).size = (#[.int .i64 0, .int .i64 0, .int .i64 0, .int .i64 0, .int .i64 0, .int .i64 0, .int .u64 0, .int .i64 0, .int .i64 0, .int .i64 0, .int .i64 0, .int .i64 0, .int .i64 0, .slice none 0 0, .slice none 0 0, .slice none 0 0, .slice none 0 0] : Array Value).size from rfl)
                  have hHo := Lib.hid (show (#[.int .i64 0, .int .i64 0, .int .i64 0, .int .i64 0, .int .i64 0, .int .i64 0, .int .u64 0, .int .i64 0, .int .i64 0, .int .i64 0, .int .i64 0, .int .i64 0, .int .i64 0, .slice none 0 0, .slice none 0 0, .slice none 0 0, .slice none 0 0] : Array Value).all (·.oneCell') = true by simp [Value.oneCell'])
                  go_wp2_with (first | (refine Au.wpList_store_row rfl 49 (.tmp 2) (.tmp 286) rfl y209 #[.int .i64 0, .int .i64 0, .int .i64 0, .int .i64 0, .int .i64 0, .int .i64 0, .int .u64 0, .int .i64 0, .int .i64 0, .int .i64 0, .int .i64 0, .int .i64 0, .int .i64 0, .slice none 0 0, .slice none 0 0, .slice none 0 0, .slice none 0 0] #[.int .i64 0, .int .i64 0, .int .i64 0, .int .i64 0, .int .i64 0, .int .i64 0, .int .u64 0, .int .i64 0, .int .i64 0, .int .i64 0, .int .i64 0, .int .i64 0, .int .i64 0, .slice none 0 0, .slice none 0 0, .slice none 0 0, .slice none 0 0] (w.heap.size) 49 hHr.out rfl rfl hHi.out hHz.out hHo.out ?_))
                  clear hHr hHi hHz hHo
                  have hN := setRow_heap _ (w.heap.size) _ #[.int .i64 0, .int .i64 0, .int .i64 0, .int .i64 0, .int .i64 0, .int .i64 0, .int .u64 0, .int .i64 0, .int .i64 0, .int .i64 0, .int .i64 0, .int .i64 0, .int .i64 0, .slice none 0 0, .slice none 0 0, .slice none 0 0, .slice none 0 0] _ _ hr209_0
                  have hsz := HU209.out.size
                  have HUx := below_setRow (g := w.heap.size) HU209.out (by first | omega | (simp at *; omega)) #[.int .i64 0, .int .i64 0, .int .i64 0, .int .i64 0, .int .i64 0, .int .i64 0, .int .u64 0, .int .i64 0, .int .i64 0, .int .i64 0, .int .i64 0, .int .i64 0, .int .i64 0, .slice none 0 0, .slice none 0 0, .slice none 0 0, .slice none 0 0]
                  have hO : ∀ kk, kk ≠ w.heap.size → (y209.setRow (w.heap.size) #[.int .i64 0, .int .i64 0, .int .i64 0, .int .i64 0, .int .i64 0, .int .i64 0, .int .u64 0, .int .i64 0, .int .i64 0, .int .i64 0, .int .i64 0, .int .i64 0, .int .i64 0, .slice none 0 0, .slice none 0 0, .slice none 0 0, .slice none 0 0]).heap[kk]? = y209.heap[kk]? := fun kk hk => setRow_other _ _ _ _ hk
                  obtain ⟨y210, hy210⟩ : ∃ y, y209.setRow (w.heap.size) #[.int .i64 0, .int .i64 0, .int .i64 0, .int .i64 0, .int .i64 0, .int .i64 0, .int .u64 0, .int .i64 0, .int .i64 0, .int .i64 0, .int .i64 0, .int .i64 0, .int .i64 0, .slice none 0 0, .slice none 0 0, .slice none 0 0, .slice none 0 0] = y := ⟨_, rfl⟩
                  rw [hy210] at hN HUx hO ⊢
                  clear hy210 hsz
                  have HU210 := Lib.hid HUx
                  clear HUx
                  have hr210_0 := hN
                  have hr210_1 := (hO _ (by omega)).trans hr209_1
                  clear hN hO
                  clear hr209_0 hr209_1 HU209
                  go_wp2
                  exact bodyPost_ret (v := .tuple #[.agg zeroC, .int .i64 cc]) (results_row2 (t := 49) Tryz.results5 rfl rfl hr210_0 Tryz.underlying49 rfl dinfo_scene) rfl ⟨.inl ⟨by rw [HPE.out]; exact c0, by rw [HPE.out]⟩, HU210.out⟩
              · have d1 : (er == 0) = false := by simpa using e0
                have d2 : (er != 0) = true := by simp [e0]
                have HPE := Lib.hid (show parE l = er by unfold parE; rw [if_neg hlen, if_neg (by rw [HRE.out]; exact e0)]; exact HRE.out)
                go_upto_region 79 with fail
                have hHr := Lib.hid hr208_0
                have hHi := Lib.hid (show (Tryz.prog.info? 49).map (·.size) = some (#[.int .i64 0, .int .i64 0, .int .i64 0, .int .i64 0, .int .i64 0, .int .i64 0, .int .u64 0, .int .i64 0, .int .i64 0, .int .i64 0, .int .i64 0, .int .i64 0, .int .i64 0, .slice none 0 0, .slice none 0 0, .slice none 0 0, .slice none 0 0] : Array Value).size by kernel_rfl)
                have hHz := Lib.hid (show (#[.int .i64 0, .int .i64 0, .int .i64 0, .int .i64 0, .int .i64 0, .int .i64 0, .int .u64 0, .int .i64 0, .int .i64 0, .int .i64 0, .int .i64 0, .int .i64 0, .int .i64 0, .slice none 0 0, .slice none 0 0, .slice none 0 0, .slice none 0 0] : Array Value).size = (#[.int .i64 0, .int .i64 0, .int .i64 0, .int .i64 0, .int .i64 0, .int .i64 0, .int .u64 0, .int .i64 0, .int .i64 0, .int .i64 0, .int .i64 0, .int .i64 0, .int .i64 0, .slice none 0 0, .slice none 0 0, .slice none 0 0, .slice none 0 0] : Array Value).size from rfl)
                have hHo := Lib.hid (show (#[.int .i64 0, .int .i64 0, .int .i64 0, .int .i64 0, .int .i64 0, .int .i64 0, .int .u64 0, .int .i64 0, .int .i64 0, .int .i64 0, .int .i64 0, .int .i64 0, .int .i64 0, .slice none 0 0, .slice none 0 0, .slice none 0 0, .slice none 0 0] : Array Value).all (·.oneCell') = true by simp [Value.oneCell'])
                go_wp2_with (first | (refine Au.wpList_store_row rfl 49 (.tmp 2) (.tmp 286) rfl y208 #[.int .i64 0, .int .i64 0, .int .i64 0, .int .i64 0, .int .i64 0, .int .i64 0, .int .u64 0, .int .i64 0, .int .i64 0, .int .i64 0, .int .i64 0, .int .i64 0, .int .i64 0, .slice none 0 0, .slice none 0 0, .slice none 0 0, .slice none 0 0] #[.int .i64 0, .int .i64 0, .int .i64 0, .int .i64 0, .int .i64 0, .int .i64 0, .int .u64 0, .int .i64 0, .int .i64 0, .int .i64 0, .int .i64 0, .int .i64 0, .int .i64 0, .slice none 0 0, .slice none 0 0, .slice none 0 0, .slice none 0 0] (w.heap.size) 49 hHr.out rfl rfl hHi.out hHz.out hHo.out ?_))
                clear hHr hHi hHz hHo
                have hN := setRow_heap _ (w.heap.size) _ #[.int .i64 0, .int .i64 0, .int .i64 0, .int .i64 0, .int .i64 0, .int .i64 0, .int .u64 0, .int .i64 0, .int .i64 0, .int .i64 0, .int .i64 0, .int .i64 0, .int .i64 0, .slice none 0 0, .slice none 0 0, .slice none 0 0, .slice none 0 0] _ _ hr208_0
                have hsz := HU208.out.size
                have HUx := below_setRow (g := w.heap.size) HU208.out (by first | omega | (simp at *; omega)) #[.int .i64 0, .int .i64 0, .int .i64 0, .int .i64 0, .int .i64 0, .int .i64 0, .int .u64 0, .int .i64 0, .int .i64 0, .int .i64 0, .int .i64 0, .int .i64 0, .int .i64 0, .slice none 0 0, .slice none 0 0, .slice none 0 0, .slice none 0 0]
                have hO : ∀ kk, kk ≠ w.heap.size → (y208.setRow (w.heap.size) #[.int .i64 0, .int .i64 0, .int .i64 0, .int .i64 0, .int .i64 0, .int .i64 0, .int .u64 0, .int .i64 0, .int .i64 0, .int .i64 0, .int .i64 0, .int .i64 0, .int .i64 0, .slice none 0 0, .slice none 0 0, .slice none 0 0, .slice none 0 0]).heap[kk]? = y208.heap[kk]? := fun kk hk => setRow_other _ _ _ _ hk
                obtain ⟨y209, hy209⟩ : ∃ y, y208.setRow (w.heap.size) #[.int .i64 0, .int .i64 0, .int .i64 0, .int .i64 0, .int .i64 0, .int .i64 0, .int .u64 0, .int .i64 0, .int .i64 0, .int .i64 0, .int .i64 0, .int .i64 0, .int .i64 0, .slice none 0 0, .slice none 0 0, .slice none 0 0, .slice none 0 0] = y := ⟨_, rfl⟩
                rw [hy209] at hN HUx hO ⊢
                clear hy209 hsz
                have HU209 := Lib.hid HUx
                clear HUx
                have hr209_0 := hN
                have hr209_1 := (hO _ (by omega)).trans hr208_1
                clear hN hO
                clear hr208_0 hr208_1 HU208
                go_wp2
                exact bodyPost_ret (v := .tuple #[.agg zeroC, .int .i64 er]) (results_row2 (t := 49) Tryz.results5 rfl rfl hr209_0 Tryz.underlying49 rfl dinfo_scene) rfl ⟨.inl ⟨by rw [HPE.out]; exact e0, by rw [HPE.out]⟩, HU209.out⟩

end Go.Proofs.YtplcbdmiccpnnaaGreat.Jd
