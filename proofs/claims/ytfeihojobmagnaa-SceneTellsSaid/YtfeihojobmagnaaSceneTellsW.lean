/- SceneTells: the walk through the law. -/
import Derived.Test.YtfeihojobmagnaaSm
import Derived.Test.YtfeihojobmagnaaSl
import Derived.Test.YtfeihojobmagnaaSz
import Derived.Test.YtfeihojobmagnaaSj
import Derived.Test.YtfeihojobmagnaaSv
import Derived.Test.YtfeihojobmagnaaUa
import Derived.Deep.MidRow
import Derived.StillTailTactics
namespace Go.Proofs.Ytfeihojobmagnaa.Sc
open Go.RowKit Go.Proofs.Ytfeihojobmagnaa Go.Proofs.Ytfeihojobmagnaa.Wa Go.Proofs.Ytfeihojobmagnaa.Ve Go.Proofs.Ytfeihojobmagnaa.Tk Go.Proofs.Ytfeihojobmagnaa.Ls
set_option linter.unusedVariables false

theorem ivals_at (l : List Nat) (j : Nat) (hj : j < l.length) : (ivals l)[j]? = some (.int .i64 ((l.getD j 0 : Nat) : Int)) := by
  simp [ivals, List.getElem?_eq_getElem hj, List.getD_eq_getElem?_getD]

theorem own_ints {w : World} {base : Nat} {e : TypeId} {v : Value} {l : List Nat} (hn : l.length * (1 * 8) ≤ 140737488351232) (h : w.ownsRow base e 1 v l.length (ivals l)) : ∃ a cap, v = .slice a l.length cap ∧ Nums 1 w a l.length (fun j => ((l.getD j 0 : Nat) : Int)) := by
  rcases h.2 with ⟨hv, h0⟩ | ⟨g, cap, cur, rfl, -, -, hcap, -, -, -⟩
  · exact ⟨none, 0, by rw [h0]; exact hv, hn, .inl h0⟩
  · exact ⟨some ⟨g, 0, none⟩, cap, rfl, hn, .inr ⟨g, 0, rfl, (h.lt g rfl).2, fun j hj => by rw [Nat.zero_add]; exact (h.cellAt j hj).trans (ivals_at l j (by omega))⟩⟩

set_option maxHeartbeats 8000000 in
set_option maxRecDepth 100000 in
theorem tellsW_walk (s : Scn) (a0 : Pla) (fr : Int) (w : World) (hs : ScAt w s a0) :
    Calls Try.prog 3 #[SV s a0, .int .i64 fr] w fun e w' => e = .returned (.bool true) ∧ Below w.heap.size w w' := by
  have hns : s.ns * (13 * 8) ≤ 140737488351232 := hs.sh.1
  have hll : (lamps s).length * (1 * 8) ≤ 140737488351232 := by have h1 := hs.sh.1; have h2 := lampsTo_len s s.ns; unfold lamps; omega
  obtain ⟨pa, pc, ta, tc, ja, jc, sa, sc⟩ := a0
  obtain ⟨c0, hc0⟩ : ∃ c0 : List Value, c0 = (SC s ⟨pa, pc, ta, tc, ja, jc, sa, sc⟩).toList := ⟨_, rfl⟩
  have e0 : SV s ⟨pa, pc, ta, tc, ja, jc, sa, sc⟩ = .agg c0.toArray := by rw [hc0]
  have HE0 := Lib.hid e0
  have HC0 := Lib.hid (show c0.toArray = SC s ⟨pa, pc, ta, tc, ja, jc, sa, sc⟩ by rw [hc0])
  have HB0 := Lib.hid (heap_alloc_last w (.cells c0.toArray 32))
  have HS0 := Lib.hid (hs.on (below_n1 w (.cells c0.toArray 32)))
  have HW0 := Lib.hid (below_n1 w (.cells c0.toArray 32))
  have HZL := Lib.hid (show (Try.prog.info? 32).map (·.size) = some c0.length by rw [hc0]; kernel_rfl)
  have HZA := Lib.hid (show (Try.prog.info? 32).map (·.size) = some c0.toArray.size by rw [hc0]; kernel_rfl)
  rw [e0]
  clear hs hc0 e0
  go_enter Try.func3, Try.ntmps3
  go_wp2_with (first | (with_reducible refine wpList_load_row rfl 32 (.tmp 2) rfl w.heap.size rfl 32 c0.toArray (0, 0) _ HB0.out Try.underlying32 rfl HZA.out ?_))
  rw [← HE0.out]
  refine (small_any s _ _ HS0.out).mono ?_
  rintro e w1 ⟨rfl, hb1⟩
  rw [HE0.out]
  have HB1 := Lib.hid ((hb1.block _ (lt_heap HB0.out)).trans HB0.out)
  have HS1 := Lib.hid (HS0.out.on hb1)
  have HW1 := Lib.hid (HW0.out.trans (hb1.mono HW0.out.size))
  obtain ⟨sm, hsm⟩ : ∃ sm, sm = smallB s := ⟨_, rfl⟩
  rw [← hsm]
  clear hsm hb1 HB0 HS0 HW0
  cases sm
  · go_wp2_with fail
    refine (awake_any _).mono ?_
    rintro e w4 ⟨rfl, hb4⟩
    go_wp2
    go_ret
    exact ⟨rfl, HW1.out.trans (hb4.mono HW1.out.size)⟩
  · go_wp2_with (first | (with_reducible refine wpList_load_row rfl 32 (.tmp 2) rfl w.heap.size rfl 32 c0.toArray (0, 0) _ HB1.out Try.underlying32 rfl HZA.out ?_))
    rw [← HE0.out]
    refine (sto_any s _ _ HS1.out).mono ?_
    rintro e w2 ⟨⟨⟨pa1, pc1, ta1, tc1, ja1, jc1, sa1, sc1⟩, rfl, -, hs1⟩, hb2⟩
    rw [HE0.out]
    obtain ⟨c1, hc1⟩ : ∃ c1 : List Value, c1 = (SC s ⟨pa1, pc1, ta1, tc1, ja1, jc1, sa1, sc1⟩).toList := ⟨_, rfl⟩
    have e1 : SV s ⟨pa1, pc1, ta1, tc1, ja1, jc1, sa1, sc1⟩ = .agg c1.toArray := by rw [hc1]
    have HE1 := Lib.hid e1
    have HC1 := Lib.hid (show c1.toArray = SC s ⟨pa1, pc1, ta1, tc1, ja1, jc1, sa1, sc1⟩ by rw [hc1])
    have HZ1 := Lib.hid (show (Try.prog.info? 47).map (·.size) = some c1.toArray.size by rw [hc1]; kernel_rfl)
    have HZ1L := Lib.hid (show (Try.prog.info? 47).map (·.size) = some c1.length by rw [hc1]; kernel_rfl)
    have HZ2 := Lib.hid (show (#[.int .i64 0, .int .i64 0, .int .i64 0, .int .i64 0, .int .i64 0, .int .i64 0, .int .u64 0, .int .i64 0, .int .i64 0, .int .i64 0, .int .i64 0, .int .i64 0, .int .i64 0, .slice none 0 0, .slice none 0 0, .slice none 0 0, .slice none 0 0] : Array Value).size = c1.toArray.size by rw [hc1]; rfl)
    have HZ3 := Lib.hid (show c1.toArray.all (·.oneCell') = true by rw [hc1]; simp [Value.oneCell'])
    have HB2 := Lib.hid ((hb2.block _ (lt_heap HB1.out)).trans HB1.out)
    have HS2 := Lib.hid (HS1.out.on hb2)
    have HW2 := Lib.hid (HW1.out.trans (hb2.mono HW1.out.size))
    rw [e1]
    go_upto_region 4 with (first | (with_reducible refine Re.wpList_store_new rfl 47 (.tmp 5) (.tmp 17) rfl w2 #[.int .i64 0, .int .i64 0, .int .i64 0, .int .i64 0, .int .i64 0, .int .i64 0, .int .u64 0, .int .i64 0, .int .i64 0, .int .i64 0, .int .i64 0, .int .i64 0, .int .i64 0, .slice none 0 0, .slice none 0 0, .slice none 0 0, .slice none 0 0] c1.toArray w2.heap.size rfl rfl rfl HZ1.out HZ2.out HZ3.out ?_))
    have hA := below_n1 w2 (.cells c1.toArray 47)
    have HX10 := Lib.hid (heap_alloc_last w2 (.cells c1.toArray 47))
    obtain ⟨w3, hw3⟩ : ∃ w3, w2.alloc (.cells c1.toArray 47) = w3 := ⟨_, rfl⟩
    rw [hw3] at hA HX10 ⊢
    have HX1 := HX10
    have HX := Lib.hid (hs1.on hA)
    have HB3 := Lib.hid ((hA.block _ (lt_heap HB2.out)).trans HB2.out)
    have HS3 := Lib.hid (HS2.out.on hA)
    have HW3 := Lib.hid (HW2.out.trans (hA.mono HW2.out.size))
    clear hs1 hc1 e1 hw3 hA HX10 HB1 HS1 HW1 HB2 HS2 HW2 hb2
    have HR0 := Lib.hid (show ∀ y : World, (y.heap[w.heap.size]? = some (.cells c0.toArray 32 (0, 0)) ∧ y.heap[w2.heap.size]? = some (.cells c1.toArray 47 (0, 0))) → y.rangeAt w.heap.size 0 c0 from fun y h j v hj => by rw [Nat.zero_add, cell_of_row _ _ j _ _ _ h.1]; simpa using hj)
    have HR1 := Lib.hid (show ∀ y : World, (y.heap[w.heap.size]? = some (.cells c0.toArray 32 (0, 0)) ∧ y.heap[w2.heap.size]? = some (.cells c1.toArray 47 (0, 0))) → y.rangeAt w2.heap.size 0 c1 from fun y h j v hj => by rw [Nat.zero_add, cell_of_row _ _ j _ _ _ h.2]; simpa using hj)
    refine wp_region_held_drew (S := fun y => y.heap[w.heap.size]? = some (.cells c0.toArray 32 (0, 0)) ∧ y.heap[w2.heap.size]? = some (.cells c1.toArray 47 (0, 0))) (by kernel_rfl) (⟨HB3.out, HX1.out⟩) (fun hS0 => ?_)
    obtain ⟨y0, hy0⟩ : ∃ y0, w3.drew = y0 := ⟨_, rfl⟩
    have HU0 := Lib.hid (show Below w3.heap.size w3 y0 by rw [← hy0]; exact (Below.refl w3.heap.size w3).drew)
    rw [hy0] at hS0 ⊢
    clear hy0
    refine wpAnyH_take (i := 0) (v := .agg c1.toArray) rfl (by kernel_rfl) (by kernel_rfl) (by kernel_rfl) (fun _ _ _ h => h) (yieldsIf_load_mid (by kernel_rfl) 47 (.tmp 5) rfl w2.heap.size 0 rfl c1 _ HR1.out Try.underlying47 rfl HZ1L.out) hS0 ?_
    go_simp
    refine wpAnyH_take (i := 2) (v := .agg c0.toArray) rfl (by kernel_rfl) (by kernel_rfl) (by kernel_rfl) (fun _ _ _ h => h) (yieldsIf_load_mid (by kernel_rfl) 32 (.tmp 2) rfl w.heap.size 0 rfl c0 _ HR0.out Try.underlying32 rfl HZL.out) hS0 ?_
    go_simp
    refine wpAnyH_ready (rs := [1]) (by kernel_rfl) (by simp) ?_
    refine AllReadyH.cons rfl (fun K hK => ?_) AllReadyH.nil
    go_simp
    go_wp2_with (go_at_call 12; rw [← HE1.out]; refine (lamps_any s _ _ (HX.out.on HU0.out)).mono ?_; rintro e y1 ⟨⟨r1, rfl, ho1⟩, hb11⟩)
    rw [HE1.out]
    obtain ⟨q1, k1, rfl, hn1⟩ := own_ints hll ho1
    have HN1 := Lib.hid hn1
    have HU1 := Lib.hid (HU0.out.trans (hb11.mono HU0.out.size))
    clear ho1 hn1
    refine hK.out _ _ (⟨(hb11.block _ (lt_heap hS0.1)).trans hS0.1, (hb11.block _ (lt_heap hS0.2)).trans hS0.2⟩) (fun hS1 => ?_)
    clear hK K
    refine wpAnyH_ready (rs := [3]) (by kernel_rfl) (by simp) ?_
    refine AllReadyH.cons rfl (fun K hK => ?_) AllReadyH.nil
    go_simp
    go_wp2_with (go_at_call 13; rw [← HE0.out]; refine (rlamps_any s _ _ (HS3.out.on HU1.out)).mono ?_; rintro e y2 ⟨⟨r2, rfl, ho2⟩, hb12⟩)
    rw [HE0.out]
    obtain ⟨q2, k2, rfl, hn2⟩ := own_ints hll ho2
    have HN2 := Lib.hid hn2
    have HN3 := Lib.hid (HN1.out.on hb12)
    have HU2 := Lib.hid (HU1.out.trans (hb12.mono HU1.out.size))
    clear ho2 hn2
    refine hK.out _ _ (⟨(hb12.block _ (lt_heap hS1.1)).trans hS1.1, (hb12.block _ (lt_heap hS1.2)).trans hS1.2⟩) (fun hS2 => ?_)
    clear hK K
    refine wpAnyH_take (i := 4) (v := ?_) rfl (by kernel_rfl) (by kernel_rfl) (by kernel_rfl) (fun _ _ _ h => h) (Or.inl ⟨by kernel_rfl, by (intro wz hSz; go_simp; try with_reducible rfl)⟩) hS2 ?_
    go_simp
    refine wpAnyH_take (i := 5) (v := ?_) rfl (by kernel_rfl) (by kernel_rfl) (by kernel_rfl) (fun _ _ _ h => h) (Or.inl ⟨by kernel_rfl, by (intro wz hSz; go_simp; try with_reducible rfl)⟩) hS2 ?_
    go_simp
    refine wpAnyH_done (by kernel_rfl) ?_ _
    have HZZ := Lib.hid hS2
    clear hS2
    go_wp2_with fail
    go_loopw [29] (fun ix wr => ∃ k : Nat, k ≤ (lamps s).length ∧ ix = .int .i64 k ∧ Hid (Below y2.heap.size y2 wr)) (fun ix _ => (lamps s).length - (intOf ix).toNat)
    case atStart => exact ⟨0, Nat.zero_le _, rfl, Lib.hid (Below.refl _ _)⟩
    case round =>
      obtain ⟨k, hk, rfl, HK⟩ := hrel
      by_cases hlt : k < (lamps s).length
      · have hlt' : (k : Int) < (lamps s).length := by omega
        obtain ⟨-, h9 | ⟨b, off, hq1, hb, f0⟩⟩ := HN3.out.on HK.out
        · omega
        obtain ⟨-, h9 | ⟨b', off', hq2, hb', g0⟩⟩ := HN2.out.on HK.out
        · omega
        have f0 := f0 k (by omega)
        have g0 := g0 k (by omega)
        subst hq1 hq2
        obtain ⟨lv, hlv⟩ : ∃ lv : Int, lv = (((lamps s).getD k 0 : Nat) : Int) := ⟨_, rfl⟩
        simp only [← hlv] at f0 g0
        go_wp2_with fail
        go_quiet (fail)
        go_wp2
        go_roundw
        case rel => exact ⟨k + 1, by omega, by go_num, Lib.hid (blw_draws HK.out _)⟩
        case measure => simp [intOf]; omega
      · obtain rfl : k = (lamps s).length := by omega
        clear hlt
        have HB9 := Lib.hid ((HK.out.block _ (lt_heap HZZ.out.1)).trans HZZ.out.1)
        have HX9 := Lib.hid ((HK.out.block _ (lt_heap HZZ.out.2)).trans HZZ.out.2)
        have HD9 := Lib.hid ((HS3.out.on HU2.out).on HK.out)
        have HA9 := Lib.hid ((HX.out.on HU2.out).on HK.out)
        have HW9 := Lib.hid (HW3.out.trans ((HU2.out.trans (HK.out.mono HU2.out.size)).mono HW3.out.size))
        obtain ⟨w9, hw9⟩ : ∃ w9, w9 = wr := ⟨_, rfl⟩
        rw [← hw9] at HB9 HX9 HD9 HA9 HW9 ⊢
        have p16 : w9.cell? ⟨w2.heap.size, 16, none⟩ = some (.slice sa1 s.ns sc1) := by rw [cell_of_row _ _ 16 _ _ _ HX9.out, HC1.out]; rfl
        clear hw9 HK HN1 HN2 HN3 HZZ HU0 HU1 HU2 hb11 hb12 hS0 hS1 HB3 HS3 HX1 HX HW3
        go_wp2_with fail
        clear p16
        go_loopw [45] (fun ix wr => ∃ k : Nat, k ≤ s.ns ∧ ix = .int .i64 k ∧ Hid (Below w9.heap.size w9 wr)) (fun ix _ => s.ns - (intOf ix).toNat)
        case atStart => exact ⟨0, Nat.zero_le _, rfl, Lib.hid (Below.refl _ _)⟩
        case round =>
          obtain ⟨k, hk, rfl, HK⟩ := hrel
          by_cases hlt : k < s.ns
          · have hlt' : (k : Int) < s.ns := by omega
            obtain ⟨b, off, hba, hb, f0, f1, f2, f3, f4, f5, f6, f7, f8, f9, f10, f11, f12⟩ := nums13 (HA9.out.on HK.out).sh hlt
            obtain ⟨b', off', hba', hb', g0, -⟩ := nums13 (HD9.out.on HK.out).sh hlt
            have ea : sa1 = some ⟨b, off, none⟩ := hba
            have eb : sa = some ⟨b', off', none⟩ := hba'
            have hd2 := (HK.out.block _ (lt_heap HB9.out)).trans HB9.out
            subst ea eb
            clear hba hba'
            obtain ⟨x2, hx2⟩ : ∃ x2, x2 = s.S (k * 13 + 2) := ⟨_, rfl⟩
            rw [← hx2] at f2
            clear hx2
            have he : ∀ W, (Op.equalIn 10000 55 (V3 (s.S (k * 13 + 3)) (s.S (k * 13 + 4)) (s.S (k * 13 + 5))) (V3 (s.S (k * 13 + 3)) (s.S (k * 13 + 4)) (s.S (k * 13 + 5)))).run Try.prog W = .ok true W := fun W => by rw [eq_avec]; simp
            obtain ⟨pj, hpj⟩ : ∃ pj, decide (0 ≤ s.S (k * 13)) = pj := ⟨_, rfl⟩
            by_cases hx : x2 = 0
            · subst hx
              go_wp2_with fail
              refine (corners_ball _ _ _ _ _ _ _ _ _ _ _ _ _).mono ?_
              rintro e wv ⟨⟨g, rfl, ⟨tg, hg⟩, hgl⟩, hbv⟩
              have hT0 := heap_alloc_last wr (.cells #[.int .i64 (s.S (k * 13)), .int .i64 (s.S (k * 13 + 1)), .int .i64 0, .int .i64 (s.S (k * 13 + 3)), .int .i64 (s.S (k * 13 + 4)), .int .i64 (s.S (k * 13 + 5)), .int .i64 (s.S (k * 13 + 6)), .int .i64 (s.S (k * 13 + 7)), .int .i64 (s.S (k * 13 + 8)), .int .i64 (s.S (k * 13 + 9)), .int .i64 (s.S (k * 13 + 10)), .int .i64 (s.S (k * 13 + 11)), .int .i64 (s.S (k * 13 + 12))] 57)
              have hTA := below_n1 wr (.cells #[.int .i64 (s.S (k * 13)), .int .i64 (s.S (k * 13 + 1)), .int .i64 0, .int .i64 (s.S (k * 13 + 3)), .int .i64 (s.S (k * 13 + 4)), .int .i64 (s.S (k * 13 + 5)), .int .i64 (s.S (k * 13 + 6)), .int .i64 (s.S (k * 13 + 7)), .int .i64 (s.S (k * 13 + 8)), .int .i64 (s.S (k * 13 + 9)), .int .i64 (s.S (k * 13 + 10)), .int .i64 (s.S (k * 13 + 11)), .int .i64 (s.S (k * 13 + 12))] 57)
              have HTV := Lib.hid (hTA.trans (hbv.mono hTA.size))
              have hT := (hbv.block _ (lt_heap hT0)).trans hT0
              have hD := (HTV.out.block _ (lt_heap hd2)).trans hd2
              have g0' := (HTV.out.cell (p := ⟨b', off' + k * 13, none⟩) hb').trans g0
              have L1 : ∀ y, Below wv.heap.size wv y → y.cell? ⟨w.heap.size, 16, none⟩ = some (.slice (some ⟨b', off', none⟩) s.ns sc) := fun y h => by rw [cell_of_row _ _ 16 _ _ _ ((h.block _ (lt_heap hD)).trans hD), HC0.out]; rfl
              have L2 : ∀ y, Below wv.heap.size wv y → y.cell? ⟨b', off' + k * 13, none⟩ = some (.int .i64 (s.S (k * 13))) := fun y h => (h.cell (p := ⟨b', off' + k * 13, none⟩) (Nat.lt_of_lt_of_le hb' HTV.out.size)).trans g0'
              have LT : ∀ i y, Below wv.heap.size wv y → y.cell? ⟨wr.heap.size, i, none⟩ = (#[.int .i64 (s.S (k * 13)), .int .i64 (s.S (k * 13 + 1)), .int .i64 0, .int .i64 (s.S (k * 13 + 3)), .int .i64 (s.S (k * 13 + 4)), .int .i64 (s.S (k * 13 + 5)), .int .i64 (s.S (k * 13 + 6)), .int .i64 (s.S (k * 13 + 7)), .int .i64 (s.S (k * 13 + 8)), .int .i64 (s.S (k * 13 + 9)), .int .i64 (s.S (k * 13 + 10)), .int .i64 (s.S (k * 13 + 11)), .int .i64 (s.S (k * 13 + 12))] : Array Value)[i]? := fun i y h => cell_of_row _ _ i _ _ _ ((h.block _ (lt_heap hT)).trans hT)
              have LG : ∀ i y, Below wv.heap.size wv y → y.cell? ⟨g, i, none⟩ = _ := fun i y h => cell_of_row _ _ i _ _ _ ((h.block _ (lt_heap hg)).trans hg)
              have L3 := LT 0
              have L4 := LT 1
              have L5 := LT 2
              have L6 := LT 3
              have L7 := LT 4
              have L8 := LT 5
              have L9 := LG 0
              have La := LG 1
              have Lb := LG 2
              simp at L3 L4 L5 L6 L7 L8 L9 La Lb
              clear LT LG hT0 hTA hg
              go_wp2_with fail
              refine wp_region_held_drew (S := fun y => Below wv.heap.size wv y) (by kernel_rfl) ((Below.refl wv.heap.size wv).drew) (fun hS0 => ?_)
              obtain ⟨y0, hy0⟩ : ∃ y0, wv.drew = y0 := ⟨_, rfl⟩
              rw [hy0] at hS0 ⊢
              clear hy0
              refine wpAnyH_take (i := 0) (v := ?_) rfl (by kernel_rfl) (by kernel_rfl) (by kernel_rfl) (fun _ _ _ h => h) (Or.inl ⟨by kernel_rfl, by (intro wz hSz; go_simp; try with_reducible rfl)⟩) hS0 ?_
              go_simp
              refine wpAnyH_take (i := 1) (v := ?_) rfl (by kernel_rfl) (by kernel_rfl) (by kernel_rfl) (fun _ _ _ h => h) (Or.inl ⟨by kernel_rfl, by (intro wz hSz; have z1 := L1 _ hSz; have z2 := L2 _ hSz; have z3 := L3 _ hSz; have z4 := L4 _ hSz; have z5 := L5 _ hSz; have z6 := L6 _ hSz; have z7 := L7 _ hSz; have z8 := L8 _ hSz; have z9 := L9 _ hSz; have za := La _ hSz; have zb := Lb _ hSz; go_simp; try with_reducible rfl)⟩) hS0 ?_
              go_simp
              refine wpAnyH_take (i := 3) (v := ?_) rfl (by kernel_rfl) (by kernel_rfl) (by kernel_rfl) (fun _ _ _ h => h) (Or.inl ⟨by kernel_rfl, by (intro wz hSz; go_simp; try with_reducible rfl)⟩) hS0 ?_
              go_simp
              refine wpAnyH_take (i := 4) (v := ?_) rfl (by kernel_rfl) (by kernel_rfl) (by kernel_rfl) (fun _ _ _ h => h) (Or.inl ⟨by kernel_rfl, by (intro wz hSz; have z1 := L1 _ hSz; have z2 := L2 _ hSz; have z3 := L3 _ hSz; have z4 := L4 _ hSz; have z5 := L5 _ hSz; have z6 := L6 _ hSz; have z7 := L7 _ hSz; have z8 := L8 _ hSz; have z9 := L9 _ hSz; have za := La _ hSz; have zb := Lb _ hSz; go_simp; try with_reducible rfl)⟩) hS0 ?_
              go_simp
              refine wpAnyH_take (i := 5) (v := ?_) rfl (by kernel_rfl) (by kernel_rfl) (by kernel_rfl) (fun _ _ _ h => h) (Or.inl ⟨by kernel_rfl, by (intro wz hSz; go_simp; try with_reducible rfl)⟩) hS0 ?_
              go_simp
              refine wpAnyH_take (i := 6) (v := ?_) rfl (by kernel_rfl) (by kernel_rfl) (by kernel_rfl) (fun _ _ _ h => h) (Or.inl ⟨by kernel_rfl, by (intro wz hSz; go_simp; try with_reducible rfl)⟩) hS0 ?_
              go_simp
              refine wpAnyH_take (i := 7) (v := ?_) rfl (by kernel_rfl) (by kernel_rfl) (by kernel_rfl) (fun _ _ _ h => h) (Or.inl ⟨by kernel_rfl, by (intro wz hSz; go_simp; try with_reducible rfl)⟩) hS0 ?_
              go_simp
              refine wpAnyH_take (i := 8) (v := ?_) rfl (by kernel_rfl) (by kernel_rfl) (by kernel_rfl) (fun _ _ _ h => h) (Or.inl ⟨by kernel_rfl, by (intro wz hSz; have z1 := L1 _ hSz; have z2 := L2 _ hSz; have z3 := L3 _ hSz; have z4 := L4 _ hSz; have z5 := L5 _ hSz; have z6 := L6 _ hSz; have z7 := L7 _ hSz; have z8 := L8 _ hSz; have z9 := L9 _ hSz; have za := La _ hSz; have zb := Lb _ hSz; go_simp; try with_reducible rfl)⟩) hS0 ?_
              go_simp
              refine wpAnyH_take (i := 9) (v := ?_) rfl (by kernel_rfl) (by kernel_rfl) (by kernel_rfl) (fun _ _ _ h => h) (Or.inl ⟨by kernel_rfl, by (intro wz hSz; go_simp; try with_reducible rfl)⟩) hS0 ?_
              go_simp
              refine wpAnyH_ready (rs := [2]) (by kernel_rfl) (by simp) ?_
              refine AllReadyH.cons rfl (fun K hK => ?_) AllReadyH.nil
              go_simp
              go_wp2_with (go_at_call 15; refine (hangs_any _ _ _).mono ?_; rintro e y7 ⟨rfl, hb7⟩; rw [hpj])
              refine hK.out _ _ (hS0.trans (hb7.mono hS0.size)) (fun hS7 => ?_)
              clear hK K
              refine wpAnyH_take (i := 10) (v := ?_) rfl (by kernel_rfl) (by kernel_rfl) (by kernel_rfl) (fun _ _ _ h => h) (Or.inl ⟨by kernel_rfl, by (intro wz hSz; go_simp; try with_reducible rfl)⟩) hS7 ?_
              go_simp
              refine wpAnyH_take (i := 11) (v := ?_) rfl (by kernel_rfl) (by kernel_rfl) (by kernel_rfl) (fun _ _ _ h => h) (Or.inl ⟨by kernel_rfl, by (intro wz hSz; go_simp; try with_reducible rfl)⟩) hS7 ?_
              go_simp
              refine wpAnyH_take (i := 12) (v := ?_) rfl (by kernel_rfl) (by kernel_rfl) (by kernel_rfl) (fun _ _ _ h => h) (Or.inl ⟨by kernel_rfl, by (intro wz hSz; go_simp; try with_reducible rfl)⟩) hS7 ?_
              go_simp
              refine wpAnyH_take (i := 13) (v := ?_) rfl (by kernel_rfl) (by kernel_rfl) (by kernel_rfl) (fun _ _ _ h => h) (Or.inl ⟨by kernel_rfl, by (intro wz hSz; go_simp; try with_reducible rfl)⟩) hS7 ?_
              go_simp
              refine wpAnyH_take (i := 14) (v := ?_) rfl (by kernel_rfl) (by kernel_rfl) (by kernel_rfl) (fun _ _ _ h => h) (Or.inl ⟨by kernel_rfl, by (intro wz hSz; have z1 := L1 _ hSz; have z2 := L2 _ hSz; have z3 := L3 _ hSz; have z4 := L4 _ hSz; have z5 := L5 _ hSz; have z6 := L6 _ hSz; have z7 := L7 _ hSz; have z8 := L8 _ hSz; have z9 := L9 _ hSz; have za := La _ hSz; have zb := Lb _ hSz; go_simp; try with_reducible rfl)⟩) hS7 ?_
              go_simp
              refine wpAnyH_take (i := 15) (v := ?_) rfl (by kernel_rfl) (by kernel_rfl) (by kernel_rfl) (fun _ _ _ h => h) (Or.inl ⟨by kernel_rfl, by (intro wz hSz; go_simp; try with_reducible rfl)⟩) hS7 ?_
              go_simp
              refine wpAnyH_take (i := 16) (v := ?_) rfl (by kernel_rfl) (by kernel_rfl) (by kernel_rfl) (fun _ _ _ h => h) (Or.inl ⟨by kernel_rfl, by (intro wz hSz; go_simp; try with_reducible rfl)⟩) hS7 ?_
              go_simp
              refine wpAnyH_take (i := 17) (v := ?_) rfl (by kernel_rfl) (by kernel_rfl) (by kernel_rfl) (fun _ _ _ h => h) (Or.inl ⟨by kernel_rfl, by (intro wz hSz; have z1 := L1 _ hSz; have z2 := L2 _ hSz; have z3 := L3 _ hSz; have z4 := L4 _ hSz; have z5 := L5 _ hSz; have z6 := L6 _ hSz; have z7 := L7 _ hSz; have z8 := L8 _ hSz; have z9 := L9 _ hSz; have za := La _ hSz; have zb := Lb _ hSz; go_simp; try with_reducible rfl)⟩) hS7 ?_
              go_simp
              refine wpAnyH_take (i := 18) (v := ?_) rfl (by kernel_rfl) (by kernel_rfl) (by kernel_rfl) (fun _ _ _ h => h) (Or.inl ⟨by kernel_rfl, by (intro wz hSz; go_simp; try with_reducible rfl)⟩) hS7 ?_
              go_simp
              refine wpAnyH_take (i := 19) (v := ?_) rfl (by kernel_rfl) (by kernel_rfl) (by kernel_rfl) (fun _ _ _ h => h) (Or.inl ⟨by kernel_rfl, by (intro wz hSz; go_simp; try with_reducible rfl)⟩) hS7 ?_
              go_simp
              refine wpAnyH_take (i := 20) (v := ?_) rfl (by kernel_rfl) (by kernel_rfl) (by kernel_rfl) (fun _ _ _ h => h) (Or.inl ⟨by kernel_rfl, by (intro wz hSz; go_simp; try with_reducible rfl)⟩) hS7 ?_
              go_simp
              refine wpAnyH_take (i := 21) (v := ?_) rfl (by kernel_rfl) (by kernel_rfl) (by kernel_rfl) (fun _ _ _ h => h) (Or.inl ⟨by kernel_rfl, by (intro wz hSz; go_simp; try with_reducible rfl)⟩) hS7 ?_
              go_simp
              refine wpAnyH_take (i := 22) (v := ?_) rfl (by kernel_rfl) (by kernel_rfl) (by kernel_rfl) (fun _ _ _ h => h) (Or.inl ⟨by kernel_rfl, by (intro wz hSz; go_simp; try with_reducible rfl)⟩) hS7 ?_
              go_simp
              refine wpAnyH_take (i := 23) (v := ?_) rfl (by kernel_rfl) (by kernel_rfl) (by kernel_rfl) (fun _ _ _ h => h) (Or.inl ⟨by kernel_rfl, by (intro wz hSz; go_simp; try with_reducible rfl)⟩) hS7 ?_
              go_simp
              refine wpAnyH_take (i := 24) (v := ?_) rfl (by kernel_rfl) (by kernel_rfl) (by kernel_rfl) (fun _ _ _ h => h) (Or.inl ⟨by kernel_rfl, by (intro wz hSz; go_simp; try with_reducible rfl)⟩) hS7 ?_
              go_simp
              refine wpAnyH_take (i := 25) (v := undef) rfl (by kernel_rfl) (by kernel_rfl) (by kernel_rfl) (fun _ _ _ h => h) (Or.inr ⟨by kernel_rfl, rfl⟩) hS7 ?_
              go_simp
              refine wpAnyH_take (i := 26) (v := undef) rfl (by kernel_rfl) (by kernel_rfl) (by kernel_rfl) (fun _ _ _ h => h) (Or.inr ⟨by kernel_rfl, rfl⟩) hS7 ?_
              go_simp
              refine wpAnyH_take (i := 27) (v := undef) rfl (by kernel_rfl) (by kernel_rfl) (by kernel_rfl) (fun _ _ _ h => h) (Or.inr ⟨by kernel_rfl, rfl⟩) hS7 ?_
              go_simp
              refine wpAnyH_take (i := 28) (v := ?_) rfl (by kernel_rfl) (by kernel_rfl) (by kernel_rfl) (fun _ _ _ h => h) (Or.inl ⟨by kernel_rfl, by (intro wz hSz; go_simp; try with_reducible rfl)⟩) hS7 ?_
              go_simp
              refine wpAnyH_take (i := 29) (v := ?_) rfl (by kernel_rfl) (by kernel_rfl) (by kernel_rfl) (fun _ _ _ h => h) (Or.inl ⟨by kernel_rfl, by (intro wz hSz; go_simp; try with_reducible rfl)⟩) hS7 ?_
              go_simp
              refine wpAnyH_take (i := 30) (v := ?_) rfl (by kernel_rfl) (by kernel_rfl) (by kernel_rfl) (fun _ _ _ h => h) (Or.inl ⟨by kernel_rfl, by (intro wz hSz; go_simp; try with_reducible rfl)⟩) hS7 ?_
              go_simp
              refine wpAnyH_take (i := 31) (v := ?_) rfl (by kernel_rfl) (by kernel_rfl) (by kernel_rfl) (fun _ _ _ h => h) (Or.inl ⟨by kernel_rfl, by (intro wz hSz; go_simp; try with_reducible rfl)⟩) hS7 ?_
              go_simp
              refine wpAnyH_take (i := 32) (v := ?_) rfl (by kernel_rfl) (by kernel_rfl) (by kernel_rfl) (fun _ _ _ h => h) (Or.inl ⟨by kernel_rfl, by (intro wz hSz; go_simp; try with_reducible rfl)⟩) hS7 ?_
              go_simp
              refine wpAnyH_take (i := 33) (v := ?_) rfl (by kernel_rfl) (by kernel_rfl) (by kernel_rfl) (fun _ _ _ h => h) (Or.inl ⟨by kernel_rfl, by (intro wz hSz; go_simp; try with_reducible rfl)⟩) hS7 ?_
              go_simp
              refine wpAnyH_take (i := 34) (v := ?_) rfl (by kernel_rfl) (by kernel_rfl) (by kernel_rfl) (fun _ _ _ h => h) (Or.inl ⟨by kernel_rfl, by (intro wz hSz; go_simp; try with_reducible rfl)⟩) hS7 ?_
              go_simp
              refine wpAnyH_take (i := 35) (v := ?_) rfl (by kernel_rfl) (by kernel_rfl) (by kernel_rfl) (fun _ _ _ h => h) (Or.inl ⟨by kernel_rfl, by (intro wz hSz; have z1 := L1 _ hSz; have z2 := L2 _ hSz; have z3 := L3 _ hSz; have z4 := L4 _ hSz; have z5 := L5 _ hSz; have z6 := L6 _ hSz; have z7 := L7 _ hSz; have z8 := L8 _ hSz; have z9 := L9 _ hSz; have za := La _ hSz; have zb := Lb _ hSz; go_simp; try with_reducible rfl)⟩) hS7 ?_
              go_simp
              refine wpAnyH_take (i := 36) (v := ?_) rfl (by kernel_rfl) (by kernel_rfl) (by kernel_rfl) (fun _ _ _ h => h) (Or.inl ⟨by kernel_rfl, by (intro wz hSz; go_simp; try with_reducible rfl)⟩) hS7 ?_
              go_simp
              refine wpAnyH_take (i := 37) (v := ?_) rfl (by kernel_rfl) (by kernel_rfl) (by kernel_rfl) (fun _ _ _ h => h) (Or.inl ⟨by kernel_rfl, by (intro wz hSz; go_simp; try with_reducible rfl)⟩) hS7 ?_
              go_simp
              refine wpAnyH_take (i := 38) (v := ?_) rfl (by kernel_rfl) (by kernel_rfl) (by kernel_rfl) (fun _ _ _ h => h) (Or.inl ⟨by kernel_rfl, by (intro wz hSz; go_simp; try with_reducible rfl)⟩) hS7 ?_
              go_simp
              refine wpAnyH_take (i := 39) (v := ?_) rfl (by kernel_rfl) (by kernel_rfl) (by kernel_rfl) (fun _ _ _ h => h) (Or.inl ⟨by kernel_rfl, by (intro wz hSz; go_simp; try with_reducible rfl)⟩) hS7 ?_
              go_simp
              refine wpAnyH_take (i := 40) (v := ?_) rfl (by kernel_rfl) (by kernel_rfl) (by kernel_rfl) (fun _ _ _ h => h) (Or.inl ⟨by kernel_rfl, by (intro wz hSz; go_simp; try with_reducible rfl)⟩) hS7 ?_
              go_simp
              refine wpAnyH_take (i := 41) (v := ?_) rfl (by kernel_rfl) (by kernel_rfl) (by kernel_rfl) (fun _ _ _ h => h) (Or.inl ⟨by kernel_rfl, by (intro wz hSz; go_simp; try with_reducible rfl)⟩) hS7 ?_
              go_simp
              refine wpAnyH_take (i := 42) (v := ?_) rfl (by kernel_rfl) (by kernel_rfl) (by kernel_rfl) (fun _ _ _ h => h) (Or.inl ⟨by kernel_rfl, by (intro wz hSz; have z1 := L1 _ hSz; have z2 := L2 _ hSz; have z3 := L3 _ hSz; have z4 := L4 _ hSz; have z5 := L5 _ hSz; have z6 := L6 _ hSz; have z7 := L7 _ hSz; have z8 := L8 _ hSz; have z9 := L9 _ hSz; have za := La _ hSz; have zb := Lb _ hSz; go_simp; try with_reducible rfl)⟩) hS7 ?_
              go_simp
              refine wpAnyH_take (i := 43) (v := ?_) rfl (by kernel_rfl) (by kernel_rfl) (by kernel_rfl) (fun _ _ _ h => h) (Or.inl ⟨by kernel_rfl, by (intro wz hSz; go_simp; try with_reducible rfl)⟩) hS7 ?_
              go_simp
              refine wpAnyH_take (i := 44) (v := ?_) rfl (by kernel_rfl) (by kernel_rfl) (by kernel_rfl) (fun _ _ _ h => h) (Or.inl ⟨by kernel_rfl, by (intro wz hSz; have z1 := L1 _ hSz; have z2 := L2 _ hSz; have z3 := L3 _ hSz; have z4 := L4 _ hSz; have z5 := L5 _ hSz; have z6 := L6 _ hSz; have z7 := L7 _ hSz; have z8 := L8 _ hSz; have z9 := L9 _ hSz; have za := La _ hSz; have zb := Lb _ hSz; go_simp; try with_reducible rfl)⟩) hS7 ?_
              go_simp
              refine wpAnyH_take (i := 45) (v := ?_) rfl (by kernel_rfl) (by kernel_rfl) (by kernel_rfl) (fun _ _ _ h => h) (Or.inl ⟨by kernel_rfl, by (intro wz hSz; go_simp; try with_reducible rfl)⟩) hS7 ?_
              go_simp
              refine wpAnyH_take (i := 46) (v := ?_) rfl (by kernel_rfl) (by kernel_rfl) (by kernel_rfl) (fun _ _ _ h => h) (Or.inl ⟨by kernel_rfl, by (intro wz hSz; go_simp; try with_reducible rfl)⟩) hS7 ?_
              go_simp
              refine wpAnyH_done (by kernel_rfl) ?_ _
              go_wp2
              go_roundw
              case rel => exact ⟨k + 1, by omega, by go_num, Lib.hid ((HK.out.trans (HTV.out.mono HK.out.size)).trans (hS7.mono (HK.out.trans (HTV.out.mono HK.out.size)).size))⟩
              case measure => simp [intOf]; omega
            · have hx0 : decide (x2 = 0) = false := decide_eq_false hx
              have hx1 : (x2 == 0) = false := by simpa using hx
              go_wp2_with fail
              refine (corners_face _ _ _ _ _ _ _ _ _ _ _ _ _ hx _).mono ?_
              rintro e wv ⟨⟨g, rfl, ⟨tg, hg⟩, hgl⟩, hbv⟩
              have hT0 := heap_alloc_last wr (.cells #[.int .i64 (s.S (k * 13)), .int .i64 (s.S (k * 13 + 1)), .int .i64 (x2), .int .i64 (s.S (k * 13 + 3)), .int .i64 (s.S (k * 13 + 4)), .int .i64 (s.S (k * 13 + 5)), .int .i64 (s.S (k * 13 + 6)), .int .i64 (s.S (k * 13 + 7)), .int .i64 (s.S (k * 13 + 8)), .int .i64 (s.S (k * 13 + 9)), .int .i64 (s.S (k * 13 + 10)), .int .i64 (s.S (k * 13 + 11)), .int .i64 (s.S (k * 13 + 12))] 57)
              have hTA := below_n1 wr (.cells #[.int .i64 (s.S (k * 13)), .int .i64 (s.S (k * 13 + 1)), .int .i64 (x2), .int .i64 (s.S (k * 13 + 3)), .int .i64 (s.S (k * 13 + 4)), .int .i64 (s.S (k * 13 + 5)), .int .i64 (s.S (k * 13 + 6)), .int .i64 (s.S (k * 13 + 7)), .int .i64 (s.S (k * 13 + 8)), .int .i64 (s.S (k * 13 + 9)), .int .i64 (s.S (k * 13 + 10)), .int .i64 (s.S (k * 13 + 11)), .int .i64 (s.S (k * 13 + 12))] 57)
              have HTV := Lib.hid (hTA.trans (hbv.mono hTA.size))
              have hT := (hbv.block _ (lt_heap hT0)).trans hT0
              have hD := (HTV.out.block _ (lt_heap hd2)).trans hd2
              have g0' := (HTV.out.cell (p := ⟨b', off' + k * 13, none⟩) hb').trans g0
              have L1 : ∀ y, Below wv.heap.size wv y → y.cell? ⟨w.heap.size, 16, none⟩ = some (.slice (some ⟨b', off', none⟩) s.ns sc) := fun y h => by rw [cell_of_row _ _ 16 _ _ _ ((h.block _ (lt_heap hD)).trans hD), HC0.out]; rfl
              have L2 : ∀ y, Below wv.heap.size wv y → y.cell? ⟨b', off' + k * 13, none⟩ = some (.int .i64 (s.S (k * 13))) := fun y h => (h.cell (p := ⟨b', off' + k * 13, none⟩) (Nat.lt_of_lt_of_le hb' HTV.out.size)).trans g0'
              have LT : ∀ i y, Below wv.heap.size wv y → y.cell? ⟨wr.heap.size, i, none⟩ = (#[.int .i64 (s.S (k * 13)), .int .i64 (s.S (k * 13 + 1)), .int .i64 (x2), .int .i64 (s.S (k * 13 + 3)), .int .i64 (s.S (k * 13 + 4)), .int .i64 (s.S (k * 13 + 5)), .int .i64 (s.S (k * 13 + 6)), .int .i64 (s.S (k * 13 + 7)), .int .i64 (s.S (k * 13 + 8)), .int .i64 (s.S (k * 13 + 9)), .int .i64 (s.S (k * 13 + 10)), .int .i64 (s.S (k * 13 + 11)), .int .i64 (s.S (k * 13 + 12))] : Array Value)[i]? := fun i y h => cell_of_row _ _ i _ _ _ ((h.block _ (lt_heap hT)).trans hT)
              have LG : ∀ i y, Below wv.heap.size wv y → y.cell? ⟨g, i, none⟩ = _ := fun i y h => cell_of_row _ _ i _ _ _ ((h.block _ (lt_heap hg)).trans hg)
              have L3 := LT 0
              have L4 := LT 1
              have L5 := LT 2
              have L6 := LT 3
              have L7 := LT 4
              have L8 := LT 5
              have L9 := LG 0
              have La := LG 1
              have Lb := LG 2
              simp at L3 L4 L5 L6 L7 L8 L9 La Lb
              clear LT LG hT0 hTA hg
              go_wp2_with fail
              refine wp_region_held_drew (S := fun y => Below wv.heap.size wv y) (by kernel_rfl) ((Below.refl wv.heap.size wv).drew) (fun hS0 => ?_)
              obtain ⟨y0, hy0⟩ : ∃ y0, wv.drew = y0 := ⟨_, rfl⟩
              rw [hy0] at hS0 ⊢
              clear hy0
              refine wpAnyH_take (i := 0) (v := ?_) rfl (by kernel_rfl) (by kernel_rfl) (by kernel_rfl) (fun _ _ _ h => h) (Or.inl ⟨by kernel_rfl, by (intro wz hSz; go_simp; try with_reducible rfl)⟩) hS0 ?_
              go_simp
              refine wpAnyH_take (i := 1) (v := ?_) rfl (by kernel_rfl) (by kernel_rfl) (by kernel_rfl) (fun _ _ _ h => h) (Or.inl ⟨by kernel_rfl, by (intro wz hSz; have z1 := L1 _ hSz; have z2 := L2 _ hSz; have z3 := L3 _ hSz; have z4 := L4 _ hSz; have z5 := L5 _ hSz; have z6 := L6 _ hSz; have z7 := L7 _ hSz; have z8 := L8 _ hSz; have z9 := L9 _ hSz; have za := La _ hSz; have zb := Lb _ hSz; go_simp; try with_reducible rfl)⟩) hS0 ?_
              go_simp
              refine wpAnyH_take (i := 3) (v := ?_) rfl (by kernel_rfl) (by kernel_rfl) (by kernel_rfl) (fun _ _ _ h => h) (Or.inl ⟨by kernel_rfl, by (intro wz hSz; go_simp; try with_reducible rfl)⟩) hS0 ?_
              go_simp
              refine wpAnyH_take (i := 4) (v := ?_) rfl (by kernel_rfl) (by kernel_rfl) (by kernel_rfl) (fun _ _ _ h => h) (Or.inl ⟨by kernel_rfl, by (intro wz hSz; have z1 := L1 _ hSz; have z2 := L2 _ hSz; have z3 := L3 _ hSz; have z4 := L4 _ hSz; have z5 := L5 _ hSz; have z6 := L6 _ hSz; have z7 := L7 _ hSz; have z8 := L8 _ hSz; have z9 := L9 _ hSz; have za := La _ hSz; have zb := Lb _ hSz; go_simp; try with_reducible rfl)⟩) hS0 ?_
              go_simp
              refine wpAnyH_take (i := 5) (v := ?_) rfl (by kernel_rfl) (by kernel_rfl) (by kernel_rfl) (fun _ _ _ h => h) (Or.inl ⟨by kernel_rfl, by (intro wz hSz; go_simp; try with_reducible rfl)⟩) hS0 ?_
              go_simp
              refine wpAnyH_take (i := 6) (v := ?_) rfl (by kernel_rfl) (by kernel_rfl) (by kernel_rfl) (fun _ _ _ h => h) (Or.inl ⟨by kernel_rfl, by (intro wz hSz; go_simp; try with_reducible rfl)⟩) hS0 ?_
              go_simp
              refine wpAnyH_take (i := 7) (v := ?_) rfl (by kernel_rfl) (by kernel_rfl) (by kernel_rfl) (fun _ _ _ h => h) (Or.inl ⟨by kernel_rfl, by (intro wz hSz; go_simp; try with_reducible rfl)⟩) hS0 ?_
              go_simp
              refine wpAnyH_take (i := 8) (v := ?_) rfl (by kernel_rfl) (by kernel_rfl) (by kernel_rfl) (fun _ _ _ h => h) (Or.inl ⟨by kernel_rfl, by (intro wz hSz; have z1 := L1 _ hSz; have z2 := L2 _ hSz; have z3 := L3 _ hSz; have z4 := L4 _ hSz; have z5 := L5 _ hSz; have z6 := L6 _ hSz; have z7 := L7 _ hSz; have z8 := L8 _ hSz; have z9 := L9 _ hSz; have za := La _ hSz; have zb := Lb _ hSz; go_simp; try with_reducible rfl)⟩) hS0 ?_
              go_simp
              refine wpAnyH_take (i := 9) (v := ?_) rfl (by kernel_rfl) (by kernel_rfl) (by kernel_rfl) (fun _ _ _ h => h) (Or.inl ⟨by kernel_rfl, by (intro wz hSz; go_simp; try with_reducible rfl)⟩) hS0 ?_
              go_simp
              refine wpAnyH_ready (rs := [2]) (by kernel_rfl) (by simp) ?_
              refine AllReadyH.cons rfl (fun K hK => ?_) AllReadyH.nil
              go_simp
              go_wp2_with (go_at_call 15; refine (hangs_any _ _ _).mono ?_; rintro e y7 ⟨rfl, hb7⟩; rw [hpj])
              refine hK.out _ _ (hS0.trans (hb7.mono hS0.size)) (fun hS7 => ?_)
              clear hK K
              refine wpAnyH_take (i := 10) (v := ?_) rfl (by kernel_rfl) (by kernel_rfl) (by kernel_rfl) (fun _ _ _ h => h) (Or.inl ⟨by kernel_rfl, by (intro wz hSz; go_simp; try with_reducible rfl)⟩) hS7 ?_
              go_simp
              refine wpAnyH_take (i := 11) (v := ?_) rfl (by kernel_rfl) (by kernel_rfl) (by kernel_rfl) (fun _ _ _ h => h) (Or.inl ⟨by kernel_rfl, by (intro wz hSz; go_simp; try with_reducible rfl)⟩) hS7 ?_
              go_simp
              refine wpAnyH_take (i := 12) (v := ?_) rfl (by kernel_rfl) (by kernel_rfl) (by kernel_rfl) (fun _ _ _ h => h) (Or.inl ⟨by kernel_rfl, by (intro wz hSz; go_simp; try with_reducible rfl)⟩) hS7 ?_
              go_simp
              refine wpAnyH_take (i := 13) (v := ?_) rfl (by kernel_rfl) (by kernel_rfl) (by kernel_rfl) (fun _ _ _ h => h) (Or.inl ⟨by kernel_rfl, by (intro wz hSz; go_simp; try with_reducible rfl)⟩) hS7 ?_
              go_simp
              refine wpAnyH_take (i := 14) (v := ?_) rfl (by kernel_rfl) (by kernel_rfl) (by kernel_rfl) (fun _ _ _ h => h) (Or.inl ⟨by kernel_rfl, by (intro wz hSz; have z1 := L1 _ hSz; have z2 := L2 _ hSz; have z3 := L3 _ hSz; have z4 := L4 _ hSz; have z5 := L5 _ hSz; have z6 := L6 _ hSz; have z7 := L7 _ hSz; have z8 := L8 _ hSz; have z9 := L9 _ hSz; have za := La _ hSz; have zb := Lb _ hSz; go_simp; try with_reducible rfl)⟩) hS7 ?_
              go_simp
              refine wpAnyH_take (i := 15) (v := ?_) rfl (by kernel_rfl) (by kernel_rfl) (by kernel_rfl) (fun _ _ _ h => h) (Or.inl ⟨by kernel_rfl, by (intro wz hSz; go_simp; try with_reducible rfl)⟩) hS7 ?_
              go_simp
              refine wpAnyH_take (i := 16) (v := ?_) rfl (by kernel_rfl) (by kernel_rfl) (by kernel_rfl) (fun _ _ _ h => h) (Or.inl ⟨by kernel_rfl, by (intro wz hSz; go_simp; try with_reducible rfl)⟩) hS7 ?_
              go_simp
              refine wpAnyH_take (i := 17) (v := ?_) rfl (by kernel_rfl) (by kernel_rfl) (by kernel_rfl) (fun _ _ _ h => h) (Or.inl ⟨by kernel_rfl, by (intro wz hSz; have z1 := L1 _ hSz; have z2 := L2 _ hSz; have z3 := L3 _ hSz; have z4 := L4 _ hSz; have z5 := L5 _ hSz; have z6 := L6 _ hSz; have z7 := L7 _ hSz; have z8 := L8 _ hSz; have z9 := L9 _ hSz; have za := La _ hSz; have zb := Lb _ hSz; go_simp; try with_reducible rfl)⟩) hS7 ?_
              go_simp
              refine wpAnyH_take (i := 18) (v := ?_) rfl (by kernel_rfl) (by kernel_rfl) (by kernel_rfl) (fun _ _ _ h => h) (Or.inl ⟨by kernel_rfl, by (intro wz hSz; go_simp; try with_reducible rfl)⟩) hS7 ?_
              go_simp
              refine wpAnyH_take (i := 19) (v := ?_) rfl (by kernel_rfl) (by kernel_rfl) (by kernel_rfl) (fun _ _ _ h => h) (Or.inl ⟨by kernel_rfl, by (intro wz hSz; go_simp; try with_reducible rfl)⟩) hS7 ?_
              go_simp
              refine wpAnyH_take (i := 20) (v := ?_) rfl (by kernel_rfl) (by kernel_rfl) (by kernel_rfl) (fun _ _ _ h => h) (Or.inl ⟨by kernel_rfl, by (intro wz hSz; go_simp; try with_reducible rfl)⟩) hS7 ?_
              go_simp
              refine wpAnyH_take (i := 21) (v := ?_) rfl (by kernel_rfl) (by kernel_rfl) (by kernel_rfl) (fun _ _ _ h => h) (Or.inl ⟨by kernel_rfl, by (intro wz hSz; go_simp; try with_reducible rfl)⟩) hS7 ?_
              go_simp
              refine wpAnyH_take (i := 22) (v := ?_) rfl (by kernel_rfl) (by kernel_rfl) (by kernel_rfl) (fun _ _ _ h => h) (Or.inl ⟨by kernel_rfl, by (intro wz hSz; go_simp; try with_reducible rfl)⟩) hS7 ?_
              go_simp
              refine wpAnyH_take (i := 23) (v := ?_) rfl (by kernel_rfl) (by kernel_rfl) (by kernel_rfl) (fun _ _ _ h => h) (Or.inl ⟨by kernel_rfl, by (intro wz hSz; go_simp; try with_reducible rfl)⟩) hS7 ?_
              go_simp
              refine wpAnyH_take (i := 24) (v := ?_) rfl (by kernel_rfl) (by kernel_rfl) (by kernel_rfl) (fun _ _ _ h => h) (Or.inl ⟨by kernel_rfl, by (intro wz hSz; go_simp; try with_reducible rfl)⟩) hS7 ?_
              go_simp
              refine wpAnyH_take (i := 25) (v := ?_) rfl (by kernel_rfl) (by kernel_rfl) (by kernel_rfl) (fun _ _ _ h => h) (Or.inl ⟨by kernel_rfl, by (intro wz hSz; go_simp; try with_reducible rfl)⟩) hS7 ?_
              go_simp
              refine wpAnyH_take (i := 26) (v := ?_) rfl (by kernel_rfl) (by kernel_rfl) (by kernel_rfl) (fun _ _ _ h => h) (Or.inl ⟨by kernel_rfl, by (intro wz hSz; go_simp; try with_reducible rfl)⟩) hS7 ?_
              go_simp
              refine wpAnyH_take (i := 27) (v := ?_) rfl (by kernel_rfl) (by kernel_rfl) (by kernel_rfl) (fun _ _ _ h => h) (Or.inl ⟨by kernel_rfl, by (intro wz hSz; go_simp; try with_reducible rfl)⟩) hS7 ?_
              go_simp
              refine wpAnyH_take (i := 28) (v := ?_) rfl (by kernel_rfl) (by kernel_rfl) (by kernel_rfl) (fun _ _ _ h => h) (Or.inl ⟨by kernel_rfl, by (intro wz hSz; go_simp; try with_reducible rfl)⟩) hS7 ?_
              go_simp
              refine wpAnyH_take (i := 29) (v := ?_) rfl (by kernel_rfl) (by kernel_rfl) (by kernel_rfl) (fun _ _ _ h => h) (Or.inl ⟨by kernel_rfl, by (intro wz hSz; go_simp; try with_reducible rfl)⟩) hS7 ?_
              go_simp
              refine wpAnyH_take (i := 30) (v := ?_) rfl (by kernel_rfl) (by kernel_rfl) (by kernel_rfl) (fun _ _ _ h => h) (Or.inl ⟨by kernel_rfl, by (intro wz hSz; go_simp; try with_reducible rfl)⟩) hS7 ?_
              go_simp
              refine wpAnyH_take (i := 31) (v := ?_) rfl (by kernel_rfl) (by kernel_rfl) (by kernel_rfl) (fun _ _ _ h => h) (Or.inl ⟨by kernel_rfl, by (intro wz hSz; go_simp; try with_reducible rfl)⟩) hS7 ?_
              go_simp
              refine wpAnyH_take (i := 32) (v := ?_) rfl (by kernel_rfl) (by kernel_rfl) (by kernel_rfl) (fun _ _ _ h => h) (Or.inl ⟨by kernel_rfl, by (intro wz hSz; go_simp; try with_reducible rfl)⟩) hS7 ?_
              go_simp
              refine wpAnyH_take (i := 33) (v := ?_) rfl (by kernel_rfl) (by kernel_rfl) (by kernel_rfl) (fun _ _ _ h => h) (Or.inl ⟨by kernel_rfl, by (intro wz hSz; go_simp; try with_reducible rfl)⟩) hS7 ?_
              go_simp
              refine wpAnyH_take (i := 34) (v := ?_) rfl (by kernel_rfl) (by kernel_rfl) (by kernel_rfl) (fun _ _ _ h => h) (Or.inl ⟨by kernel_rfl, by (intro wz hSz; go_simp; try with_reducible rfl)⟩) hS7 ?_
              go_simp
              refine wpAnyH_take (i := 35) (v := ?_) rfl (by kernel_rfl) (by kernel_rfl) (by kernel_rfl) (fun _ _ _ h => h) (Or.inl ⟨by kernel_rfl, by (intro wz hSz; have z1 := L1 _ hSz; have z2 := L2 _ hSz; have z3 := L3 _ hSz; have z4 := L4 _ hSz; have z5 := L5 _ hSz; have z6 := L6 _ hSz; have z7 := L7 _ hSz; have z8 := L8 _ hSz; have z9 := L9 _ hSz; have za := La _ hSz; have zb := Lb _ hSz; go_simp; try with_reducible rfl)⟩) hS7 ?_
              go_simp
              refine wpAnyH_take (i := 36) (v := ?_) rfl (by kernel_rfl) (by kernel_rfl) (by kernel_rfl) (fun _ _ _ h => h) (Or.inl ⟨by kernel_rfl, by (intro wz hSz; go_simp; try with_reducible rfl)⟩) hS7 ?_
              go_simp
              refine wpAnyH_take (i := 37) (v := ?_) rfl (by kernel_rfl) (by kernel_rfl) (by kernel_rfl) (fun _ _ _ h => h) (Or.inl ⟨by kernel_rfl, by (intro wz hSz; go_simp; try with_reducible rfl)⟩) hS7 ?_
              go_simp
              refine wpAnyH_take (i := 38) (v := ?_) rfl (by kernel_rfl) (by kernel_rfl) (by kernel_rfl) (fun _ _ _ h => h) (Or.inl ⟨by kernel_rfl, by (intro wz hSz; go_simp; try with_reducible rfl)⟩) hS7 ?_
              go_simp
              refine wpAnyH_take (i := 39) (v := ?_) rfl (by kernel_rfl) (by kernel_rfl) (by kernel_rfl) (fun _ _ _ h => h) (Or.inl ⟨by kernel_rfl, by (intro wz hSz; go_simp; try with_reducible rfl)⟩) hS7 ?_
              go_simp
              refine wpAnyH_take (i := 40) (v := ?_) rfl (by kernel_rfl) (by kernel_rfl) (by kernel_rfl) (fun _ _ _ h => h) (Or.inl ⟨by kernel_rfl, by (intro wz hSz; go_simp; try with_reducible rfl)⟩) hS7 ?_
              go_simp
              refine wpAnyH_take (i := 41) (v := ?_) rfl (by kernel_rfl) (by kernel_rfl) (by kernel_rfl) (fun _ _ _ h => h) (Or.inl ⟨by kernel_rfl, by (intro wz hSz; go_simp; try with_reducible rfl)⟩) hS7 ?_
              go_simp
              refine wpAnyH_take (i := 42) (v := ?_) rfl (by kernel_rfl) (by kernel_rfl) (by kernel_rfl) (fun _ _ _ h => h) (Or.inl ⟨by kernel_rfl, by (intro wz hSz; have z1 := L1 _ hSz; have z2 := L2 _ hSz; have z3 := L3 _ hSz; have z4 := L4 _ hSz; have z5 := L5 _ hSz; have z6 := L6 _ hSz; have z7 := L7 _ hSz; have z8 := L8 _ hSz; have z9 := L9 _ hSz; have za := La _ hSz; have zb := Lb _ hSz; go_simp; try with_reducible rfl)⟩) hS7 ?_
              go_simp
              refine wpAnyH_take (i := 43) (v := ?_) rfl (by kernel_rfl) (by kernel_rfl) (by kernel_rfl) (fun _ _ _ h => h) (Or.inl ⟨by kernel_rfl, by (intro wz hSz; go_simp; try with_reducible rfl)⟩) hS7 ?_
              go_simp
              refine wpAnyH_take (i := 44) (v := ?_) rfl (by kernel_rfl) (by kernel_rfl) (by kernel_rfl) (fun _ _ _ h => h) (Or.inl ⟨by kernel_rfl, by (intro wz hSz; have z1 := L1 _ hSz; have z2 := L2 _ hSz; have z3 := L3 _ hSz; have z4 := L4 _ hSz; have z5 := L5 _ hSz; have z6 := L6 _ hSz; have z7 := L7 _ hSz; have z8 := L8 _ hSz; have z9 := L9 _ hSz; have za := La _ hSz; have zb := Lb _ hSz; go_simp; try with_reducible rfl)⟩) hS7 ?_
              go_simp
              refine wpAnyH_take (i := 45) (v := ?_) rfl (by kernel_rfl) (by kernel_rfl) (by kernel_rfl) (fun _ _ _ h => h) (Or.inl ⟨by kernel_rfl, by (intro wz hSz; go_simp; try with_reducible rfl)⟩) hS7 ?_
              go_simp
              refine wpAnyH_take (i := 46) (v := ?_) rfl (by kernel_rfl) (by kernel_rfl) (by kernel_rfl) (fun _ _ _ h => h) (Or.inl ⟨by kernel_rfl, by (intro wz hSz; go_simp; try with_reducible rfl)⟩) hS7 ?_
              go_simp
              refine wpAnyH_done (by kernel_rfl) ?_ _
              go_wp2
              go_roundw
              case rel => exact ⟨k + 1, by omega, by go_num, Lib.hid ((HK.out.trans (HTV.out.mono HK.out.size)).trans (hS7.mono (HK.out.trans (HTV.out.mono HK.out.size)).size))⟩
              case measure => simp [intOf]; omega
          · obtain rfl : k = s.ns := by omega
            clear hlt
            have HBz := Lib.hid ((HK.out.block _ (lt_heap HB9.out)).trans HB9.out)
            have HXz := Lib.hid ((HK.out.block _ (lt_heap HX9.out)).trans HX9.out)
            have HWz := Lib.hid (HW9.out.trans (HK.out.mono HW9.out.size))
            obtain ⟨wz, hwz⟩ : ∃ wz, wz = wr := ⟨_, rfl⟩
            rw [← hwz] at HBz HXz HWz ⊢
            clear hwz HK HD9 HA9 HB9 HX9 HW9
            have q0 : wz.cell? ⟨w.heap.size, 0, none⟩ = some (.int .i64 s.w) := by rw [cell_of_row _ _ 0 _ _ _ HBz.out, HC0.out]; rfl
            have q1 : wz.cell? ⟨w.heap.size, 1, none⟩ = some (.int .i64 s.h) := by rw [cell_of_row _ _ 1 _ _ _ HBz.out, HC0.out]; rfl
            have q2 : wz.cell? ⟨w.heap.size, 2, none⟩ = some (.int .i64 s.sm) := by rw [cell_of_row _ _ 2 _ _ _ HBz.out, HC0.out]; rfl
            have q3 : wz.cell? ⟨w.heap.size, 3, none⟩ = some (.int .i64 s.dp) := by rw [cell_of_row _ _ 3 _ _ _ HBz.out, HC0.out]; rfl
            have q4 : wz.cell? ⟨w.heap.size, 4, none⟩ = some (.int .i64 s.fr) := by rw [cell_of_row _ _ 4 _ _ _ HBz.out, HC0.out]; rfl
            have q5 : wz.cell? ⟨w.heap.size, 5, none⟩ = some (.int .i64 s.sh) := by rw [cell_of_row _ _ 5 _ _ _ HBz.out, HC0.out]; rfl
            have q6 : wz.cell? ⟨w.heap.size, 6, none⟩ = some (.int .u64 s.sd) := by rw [cell_of_row _ _ 6 _ _ _ HBz.out, HC0.out]; rfl
            have q7 : wz.cell? ⟨w.heap.size, 7, none⟩ = some (.int .i64 s.r) := by rw [cell_of_row _ _ 7 _ _ _ HBz.out, HC0.out]; rfl
            have q8 : wz.cell? ⟨w.heap.size, 8, none⟩ = some (.int .i64 s.g) := by rw [cell_of_row _ _ 8 _ _ _ HBz.out, HC0.out]; rfl
            have q9 : wz.cell? ⟨w.heap.size, 9, none⟩ = some (.int .i64 s.b) := by rw [cell_of_row _ _ 9 _ _ _ HBz.out, HC0.out]; rfl
            go_wp2_with fail
            obtain ⟨hv, hhv⟩ : ∃ hv, hdB s = hv := ⟨_, rfl⟩
            refine (rhead_is s hv hhv _).mono ?_
            rintro e wh ⟨rfl, hbh⟩
            have HBh := (hbh.block _ (lt_heap HBz.out)).trans HBz.out
            have HXh := (hbh.block _ (lt_heap HXz.out)).trans HXz.out
            have q4 : wh.cell? ⟨w.heap.size, 4, none⟩ = some (.int .i64 s.fr) := by rw [cell_of_row _ _ 4 _ _ _ HBh, HC0.out]; rfl
            clear q0 q1 q2 q3 q5 q6 q7 q8 q9
            have HHV := Lib.hid hhv
            clear hhv
            cases hv
            · go_wp2_with fail
              refine (awake_any _).mono ?_
              rintro e wq ⟨rfl, hbq⟩
              go_wp2
              go_ret
              exact ⟨rfl, HWz.out.trans ((hbh.trans (hbq.mono hbh.size)).mono HWz.out.size)⟩
            · by_cases g0 : fr < 0
              · have d0 := decide_eq_true g0
                go_wp2_with fail
                refine (awake_any _).mono ?_
                rintro e wq ⟨rfl, hbq⟩
                go_wp2
                go_ret
                exact ⟨rfl, HWz.out.trans ((hbh.trans (hbq.mono hbh.size)).mono HWz.out.size)⟩
              · have d0 := decide_eq_false g0
                by_cases g2 : s.fr ≤ fr
                · have d1 := decide_eq_true g2
                  go_wp2_with fail
                  refine (awake_any _).mono ?_
                  rintro e wq ⟨rfl, hbq⟩
                  go_wp2
                  go_ret
                  exact ⟨rfl, HWz.out.trans ((hbh.trans (hbq.mono hbh.size)).mono HWz.out.size)⟩
                · have d1 := decide_eq_false g2
                  have hh := HHV.out
                  unfold hdB at hh
                  simp only [Bool.and_eq_true] at hh
                  have i1 := Lib.hid hh.1.1.1.1.1.1
                  have i2 := Lib.hid hh.1.1.1.1.1.2
                  have i3 := Lib.hid hh.1.2
                  have j1 := inB_true.1 hh.1.1.1.1.1.1
                  have j2 := inB_true.1 hh.1.1.1.1.1.2
                  have j3 := inB_true.1 hh.1.2
                  have j4 := inB_true.1 hh.1.1.2
                  have m1 : 0 ≤ s.w * s.h := Int.mul_nonneg (by omega) (by omega)
                  have m2 : s.w * s.h ≤ 64 * 64 := Int.mul_le_mul j1.2 j2.2 (by omega) (by omega)
                  have hr1 : IntKind.i64.wrap (s.w * s.h) = s.w * s.h := wrap_i64_of (by omega) (by omega)
                  have g0 : 0 ≤ fr := by omega
                  have g1 : fr < 32 := by omega
                  have hr2 : IntKind.i64.wrap (fr * 65536) = fr * 65536 := wrap_i64_of (by omega) (by omega)
                  have hr3 : IntKind.i64.wrap (fr * 65536 + s.sh) = fr * 65536 + s.sh := wrap_i64_of (by omega) (by omega)
                  clear hh j1 j2 j3 j4 m1 m2 HHV
                  go_wp2_with fail
                  have LD0 : ∀ y, Below wh.heap.size wh y → y.cell? ⟨w.heap.size, 0, none⟩ = some (.int .i64 s.w) := fun y h => by rw [cell_of_row _ _ 0 _ _ _ ((h.block _ (lt_heap HBh)).trans HBh), HC0.out]; rfl
                  have LD1 : ∀ y, Below wh.heap.size wh y → y.cell? ⟨w.heap.size, 1, none⟩ = some (.int .i64 s.h) := fun y h => by rw [cell_of_row _ _ 1 _ _ _ ((h.block _ (lt_heap HBh)).trans HBh), HC0.out]; rfl
                  have LD5 : ∀ y, Below wh.heap.size wh y → y.cell? ⟨w.heap.size, 5, none⟩ = some (.int .i64 s.sh) := fun y h => by rw [cell_of_row _ _ 5 _ _ _ ((h.block _ (lt_heap HBh)).trans HBh), HC0.out]; rfl
                  have LT0 : ∀ y, Below wh.heap.size wh y → y.cell? ⟨w2.heap.size, 0, none⟩ = some (.int .i64 s.w) := fun y h => by rw [cell_of_row _ _ 0 _ _ _ ((h.block _ (lt_heap HXh)).trans HXh), HC1.out]; rfl
                  have LT1 : ∀ y, Below wh.heap.size wh y → y.cell? ⟨w2.heap.size, 1, none⟩ = some (.int .i64 s.h) := fun y h => by rw [cell_of_row _ _ 1 _ _ _ ((h.block _ (lt_heap HXh)).trans HXh), HC1.out]; rfl
                  have LT2 : ∀ y, Below wh.heap.size wh y → y.cell? ⟨w2.heap.size, 2, none⟩ = some (.int .i64 s.sm) := fun y h => by rw [cell_of_row _ _ 2 _ _ _ ((h.block _ (lt_heap HXh)).trans HXh), HC1.out]; rfl
                  have LT3 : ∀ y, Below wh.heap.size wh y → y.cell? ⟨w2.heap.size, 3, none⟩ = some (.int .i64 s.dp) := fun y h => by rw [cell_of_row _ _ 3 _ _ _ ((h.block _ (lt_heap HXh)).trans HXh), HC1.out]; rfl
                  have LT4 : ∀ y, Below wh.heap.size wh y → y.cell? ⟨w2.heap.size, 4, none⟩ = some (.int .i64 s.fr) := fun y h => by rw [cell_of_row _ _ 4 _ _ _ ((h.block _ (lt_heap HXh)).trans HXh), HC1.out]; rfl
                  have LT5 : ∀ y, Below wh.heap.size wh y → y.cell? ⟨w2.heap.size, 5, none⟩ = some (.int .i64 s.sh) := fun y h => by rw [cell_of_row _ _ 5 _ _ _ ((h.block _ (lt_heap HXh)).trans HXh), HC1.out]; rfl
                  have LT6 : ∀ y, Below wh.heap.size wh y → y.cell? ⟨w2.heap.size, 6, none⟩ = some (.int .u64 s.sd) := fun y h => by rw [cell_of_row _ _ 6 _ _ _ ((h.block _ (lt_heap HXh)).trans HXh), HC1.out]; rfl
                  have LT7 : ∀ y, Below wh.heap.size wh y → y.cell? ⟨w2.heap.size, 7, none⟩ = some (.int .i64 s.r) := fun y h => by rw [cell_of_row _ _ 7 _ _ _ ((h.block _ (lt_heap HXh)).trans HXh), HC1.out]; rfl
                  have LT8 : ∀ y, Below wh.heap.size wh y → y.cell? ⟨w2.heap.size, 8, none⟩ = some (.int .i64 s.g) := fun y h => by rw [cell_of_row _ _ 8 _ _ _ ((h.block _ (lt_heap HXh)).trans HXh), HC1.out]; rfl
                  have LT9 : ∀ y, Below wh.heap.size wh y → y.cell? ⟨w2.heap.size, 9, none⟩ = some (.int .i64 s.b) := fun y h => by rw [cell_of_row _ _ 9 _ _ _ ((h.block _ (lt_heap HXh)).trans HXh), HC1.out]; rfl
                  have LT10 : ∀ y, Below wh.heap.size wh y → y.cell? ⟨w2.heap.size, 10, none⟩ = some (.int .i64 s.ey) := fun y h => by rw [cell_of_row _ _ 10 _ _ _ ((h.block _ (lt_heap HXh)).trans HXh), HC1.out]; rfl
                  refine wp_region_held_drew (S := fun y => Below wh.heap.size wh y) (by kernel_rfl) ((Below.refl wh.heap.size wh).drew) (fun hV0 => ?_)
                  obtain ⟨u0, hu0⟩ : ∃ u0, wh.drew = u0 := ⟨_, rfl⟩
                  rw [hu0] at hV0 ⊢
                  clear hu0
                  refine wpAnyH_ready (rs := [0]) (by kernel_rfl) (by simp) ?_
                  refine AllReadyH.cons rfl (fun K hK => ?_) AllReadyH.nil
                  go_simp
                  go_wp2_with (go_at_call 10; refine (awake_any _).mono ?_; rintro e u1 ⟨rfl, hu1⟩)
                  refine hK.out _ _ (hV0.trans (hu1.mono hV0.size)) (fun hV1 => ?_)
                  clear hK K
                  refine wpAnyH_take (i := 1) (v := ?_) rfl (by kernel_rfl) (by kernel_rfl) (by kernel_rfl) (fun _ _ _ h => h) (Or.inl ⟨by kernel_rfl, by (intro wz hSz; go_simp; try with_reducible rfl)⟩) hV1 ?_
                  go_simp
                  refine wpAnyH_take (i := 2) (v := ?_) rfl (by kernel_rfl) (by kernel_rfl) (by kernel_rfl) (fun _ _ _ h => h) (Or.inl ⟨by kernel_rfl, by (intro wz hSz; go_simp; try with_reducible rfl)⟩) hV1 ?_
                  go_simp
                  refine wpAnyH_take (i := 3) (v := ?_) rfl (by kernel_rfl) (by kernel_rfl) (by kernel_rfl) (fun _ _ _ h => h) (Or.inl ⟨by kernel_rfl, by (intro wz hSz; have z0 := LD0 _ hSz; have z1 := LD1 _ hSz; have z5 := LD5 _ hSz; have x0 := LT0 _ hSz; have x1 := LT1 _ hSz; have x2 := LT2 _ hSz; have x3 := LT3 _ hSz; have x4 := LT4 _ hSz; have x5 := LT5 _ hSz; have x6 := LT6 _ hSz; have x7 := LT7 _ hSz; have x8 := LT8 _ hSz; have x9 := LT9 _ hSz; have x10 := LT10 _ hSz; go_simp; try with_reducible rfl)⟩) hV1 ?_
                  go_simp
                  refine wpAnyH_take (i := 5) (v := ?_) rfl (by kernel_rfl) (by kernel_rfl) (by kernel_rfl) (fun _ _ _ h => h) (Or.inl ⟨by kernel_rfl, by (intro wz hSz; go_simp; try with_reducible rfl)⟩) hV1 ?_
                  go_simp
                  refine wpAnyH_take (i := 6) (v := ?_) rfl (by kernel_rfl) (by kernel_rfl) (by kernel_rfl) (fun _ _ _ h => h) (Or.inl ⟨by kernel_rfl, by (intro wz hSz; go_simp; try with_reducible rfl)⟩) hV1 ?_
                  go_simp
                  refine wpAnyH_take (i := 7) (v := ?_) rfl (by kernel_rfl) (by kernel_rfl) (by kernel_rfl) (fun _ _ _ h => h) (Or.inl ⟨by kernel_rfl, by (intro wz hSz; have z0 := LD0 _ hSz; have z1 := LD1 _ hSz; have z5 := LD5 _ hSz; have x0 := LT0 _ hSz; have x1 := LT1 _ hSz; have x2 := LT2 _ hSz; have x3 := LT3 _ hSz; have x4 := LT4 _ hSz; have x5 := LT5 _ hSz; have x6 := LT6 _ hSz; have x7 := LT7 _ hSz; have x8 := LT8 _ hSz; have x9 := LT9 _ hSz; have x10 := LT10 _ hSz; go_simp; try with_reducible rfl)⟩) hV1 ?_
                  go_simp
                  refine wpAnyH_take (i := 8) (v := ?_) rfl (by kernel_rfl) (by kernel_rfl) (by kernel_rfl) (fun _ _ _ h => h) (Or.inl ⟨by kernel_rfl, by (intro wz hSz; go_simp; try with_reducible rfl)⟩) hV1 ?_
                  go_simp
                  refine wpAnyH_take (i := 9) (v := ?_) rfl (by kernel_rfl) (by kernel_rfl) (by kernel_rfl) (fun _ _ _ h => h) (Or.inl ⟨by kernel_rfl, by (intro wz hSz; go_simp; try with_reducible rfl)⟩) hV1 ?_
                  go_simp
                  refine wpAnyH_take (i := 10) (v := ?_) rfl (by kernel_rfl) (by kernel_rfl) (by kernel_rfl) (fun _ _ _ h => h) (Or.inl ⟨by kernel_rfl, by (intro wz hSz; have z0 := LD0 _ hSz; have z1 := LD1 _ hSz; have z5 := LD5 _ hSz; have x0 := LT0 _ hSz; have x1 := LT1 _ hSz; have x2 := LT2 _ hSz; have x3 := LT3 _ hSz; have x4 := LT4 _ hSz; have x5 := LT5 _ hSz; have x6 := LT6 _ hSz; have x7 := LT7 _ hSz; have x8 := LT8 _ hSz; have x9 := LT9 _ hSz; have x10 := LT10 _ hSz; go_simp; try with_reducible rfl)⟩) hV1 ?_
                  go_simp
                  refine wpAnyH_take (i := 11) (v := ?_) rfl (by kernel_rfl) (by kernel_rfl) (by kernel_rfl) (fun _ _ _ h => h) (Or.inl ⟨by kernel_rfl, by (intro wz hSz; go_simp; try with_reducible rfl)⟩) hV1 ?_
                  go_simp
                  refine wpAnyH_ready (rs := [4]) (by kernel_rfl) (by simp) ?_
                  refine AllReadyH.cons rfl (fun K hK => ?_) AllReadyH.nil
                  go_simp
                  go_wp2_with (go_at_call 17; refine (pix_any _ _ _ _ _ _ _ _ _ _ i1.out i2.out _).mono ?_; rintro e u2 ⟨rfl, hu2⟩)
                  refine hK.out _ _ (hV1.trans (hu2.mono hV1.size)) (fun hV2 => ?_)
                  clear hK K
                  refine wpAnyH_take (i := 12) (v := ?_) rfl (by kernel_rfl) (by kernel_rfl) (by kernel_rfl) (fun _ _ _ h => h) (Or.inl ⟨by kernel_rfl, by (intro wz hSz; go_simp; try with_reducible rfl)⟩) hV2 ?_
                  go_simp
                  refine wpAnyH_take (i := 13) (v := ?_) rfl (by kernel_rfl) (by kernel_rfl) (by kernel_rfl) (fun _ _ _ h => h) (Or.inl ⟨by kernel_rfl, by (intro wz hSz; go_simp; try with_reducible rfl)⟩) hV2 ?_
                  go_simp
                  refine wpAnyH_take (i := 14) (v := ?_) rfl (by kernel_rfl) (by kernel_rfl) (by kernel_rfl) (fun _ _ _ h => h) (Or.inl ⟨by kernel_rfl, by (intro wz hSz; go_simp; try with_reducible rfl)⟩) hV2 ?_
                  go_simp
                  refine wpAnyH_take (i := 15) (v := ?_) rfl (by kernel_rfl) (by kernel_rfl) (by kernel_rfl) (fun _ _ _ h => h) (Or.inl ⟨by kernel_rfl, by (intro wz hSz; go_simp; try with_reducible rfl)⟩) hV2 ?_
                  go_simp
                  refine wpAnyH_take (i := 16) (v := ?_) rfl (by kernel_rfl) (by kernel_rfl) (by kernel_rfl) (fun _ _ _ h => h) (Or.inl ⟨by kernel_rfl, by (intro wz hSz; have z0 := LD0 _ hSz; have z1 := LD1 _ hSz; have z5 := LD5 _ hSz; have x0 := LT0 _ hSz; have x1 := LT1 _ hSz; have x2 := LT2 _ hSz; have x3 := LT3 _ hSz; have x4 := LT4 _ hSz; have x5 := LT5 _ hSz; have x6 := LT6 _ hSz; have x7 := LT7 _ hSz; have x8 := LT8 _ hSz; have x9 := LT9 _ hSz; have x10 := LT10 _ hSz; go_simp; try with_reducible rfl)⟩) hV2 ?_
                  go_simp
                  refine wpAnyH_take (i := 17) (v := ?_) rfl (by kernel_rfl) (by kernel_rfl) (by kernel_rfl) (fun _ _ _ h => h) (Or.inl ⟨by kernel_rfl, by (intro wz hSz; go_simp; try with_reducible rfl)⟩) hV2 ?_
                  go_simp
                  refine wpAnyH_take (i := 19) (v := ?_) rfl (by kernel_rfl) (by kernel_rfl) (by kernel_rfl) (fun _ _ _ h => h) (Or.inl ⟨by kernel_rfl, by (intro wz hSz; go_simp; try with_reducible rfl)⟩) hV2 ?_
                  go_simp
                  refine wpAnyH_take (i := 20) (v := ?_) rfl (by kernel_rfl) (by kernel_rfl) (by kernel_rfl) (fun _ _ _ h => h) (Or.inl ⟨by kernel_rfl, by (intro wz hSz; go_simp; try with_reducible rfl)⟩) hV2 ?_
                  go_simp
                  refine wpAnyH_ready (rs := [18]) (by kernel_rfl) (by simp) ?_
                  refine AllReadyH.cons rfl (fun K hK => ?_) AllReadyH.nil
                  go_simp
                  go_wp2_with (go_at_call 18; refine (open_any _ _ _ _ _ _ _ _ _ _ fr g0 g1 _).mono ?_; rintro e u3 ⟨rfl, hu3⟩)
                  refine hK.out _ _ (hV2.trans (hu3.mono hV2.size)) (fun hV3 => ?_)
                  clear hK K
                  refine wpAnyH_take (i := 21) (v := ?_) rfl (by kernel_rfl) (by kernel_rfl) (by kernel_rfl) (fun _ _ _ h => h) (Or.inl ⟨by kernel_rfl, by (intro wz hSz; go_simp; try with_reducible rfl)⟩) hV3 ?_
                  go_simp
                  refine wpAnyH_take (i := 22) (v := ?_) rfl (by kernel_rfl) (by kernel_rfl) (by kernel_rfl) (fun _ _ _ h => h) (Or.inl ⟨by kernel_rfl, by (intro wz hSz; go_simp; try with_reducible rfl)⟩) hV3 ?_
                  go_simp
                  refine wpAnyH_take (i := 23) (v := ?_) rfl (by kernel_rfl) (by kernel_rfl) (by kernel_rfl) (fun _ _ _ h => h) (Or.inl ⟨by kernel_rfl, by (intro wz hSz; go_simp; try with_reducible rfl)⟩) hV3 ?_
                  go_simp
                  refine wpAnyH_take (i := 24) (v := ?_) rfl (by kernel_rfl) (by kernel_rfl) (by kernel_rfl) (fun _ _ _ h => h) (Or.inl ⟨by kernel_rfl, by (intro wz hSz; go_simp; try with_reducible rfl)⟩) hV3 ?_
                  go_simp
                  refine wpAnyH_take (i := 25) (v := ?_) rfl (by kernel_rfl) (by kernel_rfl) (by kernel_rfl) (fun _ _ _ h => h) (Or.inl ⟨by kernel_rfl, by (intro wz hSz; have z0 := LD0 _ hSz; have z1 := LD1 _ hSz; have z5 := LD5 _ hSz; have x0 := LT0 _ hSz; have x1 := LT1 _ hSz; have x2 := LT2 _ hSz; have x3 := LT3 _ hSz; have x4 := LT4 _ hSz; have x5 := LT5 _ hSz; have x6 := LT6 _ hSz; have x7 := LT7 _ hSz; have x8 := LT8 _ hSz; have x9 := LT9 _ hSz; have x10 := LT10 _ hSz; go_simp; try with_reducible rfl)⟩) hV3 ?_
                  go_simp
                  refine wpAnyH_take (i := 26) (v := ?_) rfl (by kernel_rfl) (by kernel_rfl) (by kernel_rfl) (fun _ _ _ h => h) (Or.inl ⟨by kernel_rfl, by (intro wz hSz; go_simp; try with_reducible rfl)⟩) hV3 ?_
                  go_simp
                  refine wpAnyH_take (i := 28) (v := ?_) rfl (by kernel_rfl) (by kernel_rfl) (by kernel_rfl) (fun _ _ _ h => h) (Or.inl ⟨by kernel_rfl, by (intro wz hSz; go_simp; try with_reducible rfl)⟩) hV3 ?_
                  go_simp
                  refine wpAnyH_take (i := 29) (v := ?_) rfl (by kernel_rfl) (by kernel_rfl) (by kernel_rfl) (fun _ _ _ h => h) (Or.inl ⟨by kernel_rfl, by (intro wz hSz; go_simp; try with_reducible rfl)⟩) hV3 ?_
                  go_simp
                  refine wpAnyH_take (i := 30) (v := ?_) rfl (by kernel_rfl) (by kernel_rfl) (by kernel_rfl) (fun _ _ _ h => h) (Or.inl ⟨by kernel_rfl, by (intro wz hSz; go_simp; try with_reducible rfl)⟩) hV3 ?_
                  go_simp
                  refine wpAnyH_take (i := 31) (v := ?_) rfl (by kernel_rfl) (by kernel_rfl) (by kernel_rfl) (fun _ _ _ h => h) (Or.inl ⟨by kernel_rfl, by (intro wz hSz; go_simp; try with_reducible rfl)⟩) hV3 ?_
                  go_simp
                  refine wpAnyH_take (i := 32) (v := ?_) rfl (by kernel_rfl) (by kernel_rfl) (by kernel_rfl) (fun _ _ _ h => h) (Or.inl ⟨by kernel_rfl, by (intro wz hSz; have z0 := LD0 _ hSz; have z1 := LD1 _ hSz; have z5 := LD5 _ hSz; have x0 := LT0 _ hSz; have x1 := LT1 _ hSz; have x2 := LT2 _ hSz; have x3 := LT3 _ hSz; have x4 := LT4 _ hSz; have x5 := LT5 _ hSz; have x6 := LT6 _ hSz; have x7 := LT7 _ hSz; have x8 := LT8 _ hSz; have x9 := LT9 _ hSz; have x10 := LT10 _ hSz; go_simp; try with_reducible rfl)⟩) hV3 ?_
                  go_simp
                  refine wpAnyH_take (i := 33) (v := ?_) rfl (by kernel_rfl) (by kernel_rfl) (by kernel_rfl) (fun _ _ _ h => h) (Or.inl ⟨by kernel_rfl, by (intro wz hSz; go_simp; try with_reducible rfl)⟩) hV3 ?_
                  go_simp
                  refine wpAnyH_ready (rs := [27]) (by kernel_rfl) (by simp) ?_
                  refine AllReadyH.cons rfl (fun K hK => ?_) AllReadyH.nil
                  go_simp
                  go_wp2_with (go_at_call 19; refine (shut_any _ _ _ _ _ _ _ _ _ _ fr g0 g1 i3.out _).mono ?_; rintro e u4 ⟨rfl, hu4⟩)
                  refine hK.out _ _ (hV3.trans (hu4.mono hV3.size)) (fun hV4 => ?_)
                  clear hK K
                  refine wpAnyH_take (i := 34) (v := ?_) rfl (by kernel_rfl) (by kernel_rfl) (by kernel_rfl) (fun _ _ _ h => h) (Or.inl ⟨by kernel_rfl, by (intro wz hSz; go_simp; try with_reducible rfl)⟩) hV4 ?_
                  go_simp
                  refine wpAnyH_take (i := 35) (v := ?_) rfl (by kernel_rfl) (by kernel_rfl) (by kernel_rfl) (fun _ _ _ h => h) (Or.inl ⟨by kernel_rfl, by (intro wz hSz; go_simp; try with_reducible rfl)⟩) hV4 ?_
                  go_simp
                  refine wpAnyH_take (i := 36) (v := ?_) rfl (by kernel_rfl) (by kernel_rfl) (by kernel_rfl) (fun _ _ _ h => h) (Or.inl ⟨by kernel_rfl, by (intro wz hSz; go_simp; try with_reducible rfl)⟩) hV4 ?_
                  go_simp
                  refine wpAnyH_take (i := 37) (v := ?_) rfl (by kernel_rfl) (by kernel_rfl) (by kernel_rfl) (fun _ _ _ h => h) (Or.inl ⟨by kernel_rfl, by (intro wz hSz; go_simp; try with_reducible rfl)⟩) hV4 ?_
                  go_simp
                  refine wpAnyH_take (i := 38) (v := ?_) rfl (by kernel_rfl) (by kernel_rfl) (by kernel_rfl) (fun _ _ _ h => h) (Or.inl ⟨by kernel_rfl, by (intro wz hSz; go_simp; try with_reducible rfl)⟩) hV4 ?_
                  go_simp
                  refine wpAnyH_take (i := 39) (v := ?_) rfl (by kernel_rfl) (by kernel_rfl) (by kernel_rfl) (fun _ _ _ h => h) (Or.inl ⟨by kernel_rfl, by (intro wz hSz; have z0 := LD0 _ hSz; have z1 := LD1 _ hSz; have z5 := LD5 _ hSz; have x0 := LT0 _ hSz; have x1 := LT1 _ hSz; have x2 := LT2 _ hSz; have x3 := LT3 _ hSz; have x4 := LT4 _ hSz; have x5 := LT5 _ hSz; have x6 := LT6 _ hSz; have x7 := LT7 _ hSz; have x8 := LT8 _ hSz; have x9 := LT9 _ hSz; have x10 := LT10 _ hSz; go_simp; try with_reducible rfl)⟩) hV4 ?_
                  go_simp
                  refine wpAnyH_take (i := 40) (v := ?_) rfl (by kernel_rfl) (by kernel_rfl) (by kernel_rfl) (fun _ _ _ h => h) (Or.inl ⟨by kernel_rfl, by (intro wz hSz; go_simp; try with_reducible rfl)⟩) hV4 ?_
                  go_simp
                  refine wpAnyH_take (i := 41) (v := ?_) rfl (by kernel_rfl) (by kernel_rfl) (by kernel_rfl) (fun _ _ _ h => h) (Or.inl ⟨by kernel_rfl, by (intro wz hSz; go_simp; try with_reducible rfl)⟩) hV4 ?_
                  go_simp
                  refine wpAnyH_take (i := 42) (v := ?_) rfl (by kernel_rfl) (by kernel_rfl) (by kernel_rfl) (fun _ _ _ h => h) (Or.inl ⟨by kernel_rfl, by (intro wz hSz; have z0 := LD0 _ hSz; have z1 := LD1 _ hSz; have z5 := LD5 _ hSz; have x0 := LT0 _ hSz; have x1 := LT1 _ hSz; have x2 := LT2 _ hSz; have x3 := LT3 _ hSz; have x4 := LT4 _ hSz; have x5 := LT5 _ hSz; have x6 := LT6 _ hSz; have x7 := LT7 _ hSz; have x8 := LT8 _ hSz; have x9 := LT9 _ hSz; have x10 := LT10 _ hSz; go_simp; try with_reducible rfl)⟩) hV4 ?_
                  go_simp
                  refine wpAnyH_take (i := 43) (v := ?_) rfl (by kernel_rfl) (by kernel_rfl) (by kernel_rfl) (fun _ _ _ h => h) (Or.inl ⟨by kernel_rfl, by (intro wz hSz; go_simp; try with_reducible rfl)⟩) hV4 ?_
                  go_simp
                  refine wpAnyH_take (i := 44) (v := ?_) rfl (by kernel_rfl) (by kernel_rfl) (by kernel_rfl) (fun _ _ _ h => h) (Or.inl ⟨by kernel_rfl, by (intro wz hSz; go_simp; try with_reducible rfl)⟩) hV4 ?_
                  go_simp
                  refine wpAnyH_take (i := 45) (v := ?_) rfl (by kernel_rfl) (by kernel_rfl) (by kernel_rfl) (fun _ _ _ h => h) (Or.inl ⟨by kernel_rfl, by (intro wz hSz; go_simp; try with_reducible rfl)⟩) hV4 ?_
                  go_simp
                  refine wpAnyH_done (by kernel_rfl) ?_ _
                  go_wp2
                  go_ret
                  exact ⟨rfl, HWz.out.trans ((hbh.trans (hV4.mono hbh.size)).mono HWz.out.size)⟩

end Go.Proofs.Ytfeihojobmagnaa.Sc
