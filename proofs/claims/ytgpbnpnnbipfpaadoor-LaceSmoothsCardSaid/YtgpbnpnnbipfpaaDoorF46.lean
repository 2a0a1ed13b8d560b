/- Lights smoothed: a pixel smoothed, by the document. -/
import Derived.Test.YtgpbnpnnbipfpaaDoorF45
import Derived.Test.YtgpbnpnnbipfpaaDoorF35
namespace Go.Proofs.YtgpbnpnnbipfpaaDoor.Fm
open Go Go.RowKit Go.Proofs.YtgpbnpnnbipfpaaDoor Go.Proofs.YtgpbnpnnbipfpaaDoor.Rp Go.Proofs.YtgpbnpnnbipfpaaDoor.Re Go.Proofs.YtgpbnpnnbipfpaaDoor.Au Go.Proofs.YtgpbnpnnbipfpaaDoor.Jw
set_option linter.unusedVariables false
set_option linter.unusedSimpArgs false

theorem wrap_in {z : Int} (h0 : -4611686018427387904 ≤ z) (h1 : z ≤ 4611686018427387904) : wrap64 z = z ∧ IntKind.i64.wrap z = z := by
  refine ⟨?_, ?_⟩
  · unfold wrap64; omega
  · rw [IntKind.wrap_i64]; omega

theorem wrap_is {z t : Int} (h : z = t) (h0 : -4611686018427387904 ≤ t) (h1 : t ≤ 4611686018427387904) : wrap64 z = t ∧ IntKind.i64.wrap z = t := by
  subst h; exact wrap_in h0 h1

theorem idx_lt2 {x y Wn Hn : Nat} (hx : x < Wn) (hy : y < Hn) : y * Wn + x < Wn * Hn := by
  have b := Nat.mul_le_mul_right Wn (show y + 1 ≤ Hn by omega)
  rw [Nat.add_mul, Nat.one_mul, Nat.mul_comm Hn Wn] at b
  omega

theorem mid_facts {x y Wn Hn n : Nat} (hx : x < Wn) (hy : y < Hn) (hn : n = Wn * Hn) (h4 : n ≤ 4096) : ∃ yw mid : Nat, (wrap64 ((y : Int) * (Wn : Int)) = (yw : Int) ∧ IntKind.i64.wrap ((y : Int) * (Wn : Int)) = (yw : Int)) ∧ (wrap64 ((yw : Int) + (x : Int)) = (mid : Int) ∧ IntKind.i64.wrap ((yw : Int) + (x : Int)) = (mid : Int)) ∧ mid < n ∧ mid = y * Wn + x := by
  have h := idx_lt2 hx hy
  rw [← hn] at h
  obtain ⟨yw, hyw⟩ : ∃ t, t = y * Wn := ⟨_, rfl⟩
  rw [← hyw] at h
  refine ⟨yw, yw + x, ?_, ?_, h, by rw [hyw]⟩
  · have e : (y : Int) * (Wn : Int) = (yw : Int) := by rw [← Int.natCast_mul, ← hyw]
    clear hyw
    exact wrap_is e (by omega) (by omega)
  · clear hyw
    exact wrap_is (by push_cast; rfl) (by omega) (by omega)

set_option maxHeartbeats 16000000 in
set_option maxRecDepth 100000 in
theorem dpixel_any (f : Flm) (p : Pl) (a : Option Addr) (n c : Nat) (L : Nat → Int) (Wn Hn lv x y : Nat) (w : World) (hf : FAt w f p) (hl : Rw 3 w a n L) (hw : f.W = Wn) (hh : f.H = Hn) (ho : okF f) (hn : n = Wn * Hn) (hlv : lv < 5) (hx : x < Wn) (hy : y < Hn) : Calls Tryd.prog 24 #[.agg (FC f p), .agg #[.int .i64 (Wn : Nat), .int .i64 (Hn : Nat), .slice a n c], .int .i64 x, .int .i64 y, .int .i64 lv] w fun e' w' => e' = .returned (.agg #[.int .i64 (sm0 f L Wn Hn lv x y), .int .i64 (sm1 f L Wn Hn lv x y), .int .i64 (sm2 f L Wn Hn lv x y)]) ∧ Below w.heap.size w w' := by
  have HF := Lib.hid hf
  have HL := Lib.hid hl
  have HO := Lib.hid ho
  have HN := Lib.hid hn
  have hwb : 1 ≤ Wn ∧ Wn ≤ 64 ∧ 1 ≤ Hn ∧ Hn ≤ 64 := by have h1 := ho.1.1; unfold okSz at h1; rw [hw, hh] at h1; omega
  have hns : f.ns = n := by have h1 := ho.2.2.2.2.1.1; rw [hw, hh] at h1; have e : ((Wn * Hn : Nat) : Int) = (Wn : Int) * (Hn : Int) := by push_cast; rfl
                            rw [← e, ← hn] at h1; omega
  have HNS := Lib.hid hns
  have HLV := Lib.hid hlv
  obtain ⟨st, hst⟩ : ∃ st, st = (2 : Int) ^ lv := ⟨_, rfl⟩
  obtain ⟨ed, hed⟩ : ∃ ed, ed = edg lv := ⟨_, rfl⟩
  obtain ⟨s2, hs2⟩ : ∃ s, s = 2 * st := ⟨_, rfl⟩
  have hpb := pow_bd hlv
  rw [← hst] at hpb
  have HST := Lib.hid hst
  have HED := Lib.hid hed
  obtain ⟨v1, v2⟩ := wrap_is hs2.symm (by omega) (by omega)
  have HPW := Lib.hid (show ∀ W : World, Calls Tryd.prog 30 #[.int .i64 (lv : Int)] W (fun e' w' => e' = .returned (.int .i64 st) ∧ W = w') from fun W => by rw [hst]; exact power_any lv hlv W)
  have HOF := Lib.hid (show ∀ W : World, Calls Tryd.prog 32 #[.int .i64 s2] W (fun e' w' => e' = .returned (.int .i64 ed) ∧ W = w') from fun W => by rw [hed, hs2, hst]; exact Wa.refOf_any _ W)
  clear hst hed hs2 hpb
  have hn4 : n ≤ 4096 := by have h1 := okSz_mul ho.1.1; rw [hw, hh] at h1; have e : ((Wn * Hn : Nat) : Int) = (Wn : Int) * (Hn : Int) := by push_cast; rfl
                            rw [← e, ← hn] at h1; omega
  obtain ⟨yw, mid, ⟨v3, v4⟩, ⟨v5, v6⟩, hmidl, hmd⟩ := mid_facts hx hy hn hn4
  have HMD := Lib.hid hmd
  have hmidl' : (mid : Int) < n := by omega
  clear hf hl hw hh ho hn hlv hmd hns
  go_enter Tryd.func24, Tryd.ntmps24
  go_upto_region 1 with fail
  have hR := Au.rows3 w (.cells (FC f p) 29) (.cells #[.int .i64 (Wn : Nat), .int .i64 (Hn : Nat), .slice a n c] 24) (.cells #[.int .i64 0, .int .i64 0, .int .i64 0] 54)
  have HUx := Ve.below_n3 w (.cells (FC f p) 29) (.cells #[.int .i64 (Wn : Nat), .int .i64 (Hn : Nat), .slice a n c] 24) (.cells #[.int .i64 0, .int .i64 0, .int .i64 0] 54)
  obtain ⟨y0, hy0⟩ : ∃ y0, ((w.alloc (.cells (FC f p) 29)).alloc (.cells #[.int .i64 (Wn : Nat), .int .i64 (Hn : Nat), .slice a n c] 24)).alloc (.cells #[.int .i64 0, .int .i64 0, .int .i64 0] 54) = y0 := ⟨_, rfl⟩
  rw [hy0] at hR HUx ⊢
  clear hy0
  have HU0 := Lib.hid HUx
  clear HUx
  obtain ⟨hr0_0, hr0_1, hr0_2⟩ := hR
  have c1_0 := cell_of_row _ _ 0 _ _ _ hr0_1
  have c1_1 := cell_of_row _ _ 1 _ _ _ hr0_1
  have c1_2 := cell_of_row _ _ 2 _ _ _ hr0_1
  simp at c1_0 c1_1 c1_2
  go_wp2_with fail
  clear v3 v4 v5 v6
  clear c1_0 c1_1 c1_2
  refine (HPW.out _).mono ?_
  rintro e ww ⟨rfl, rfl⟩
  go_upto_region 4 with fail
  have hb1 := Ve.below_n1 y0 (.cells #[.int .i64 0, .int .i64 0, .int .i64 0] 54)
  have hN := heap_alloc_last y0 (.cells #[.int .i64 0, .int .i64 0, .int .i64 0] 54)
  obtain ⟨y1, hy1⟩ : ∃ y, y0.alloc (.cells #[.int .i64 0, .int .i64 0, .int .i64 0] 54) = y := ⟨_, rfl⟩
  have hs1 : y1.heap.size = y0.heap.size + 1 := by rw [← hy1]; simp
  rw [hy1] at hb1 hN ⊢
  clear hy1
  have hl1_0 := lt_heap hr0_0
  have hl1_1 := lt_heap hr0_1
  have hl1_2 := lt_heap hr0_2
  have hr1_0 := (hb1.block _ (lt_heap hr0_0)).trans hr0_0
  have hr1_1 := (hb1.block _ (lt_heap hr0_1)).trans hr0_1
  have hr1_2 := (hb1.block _ (lt_heap hr0_2)).trans hr0_2
  have HU1 := Lib.hid (HU0.out.trans (hb1.mono HU0.out.size))
  clear hr0_0 hr0_1 hr0_2 HU0
  have hr1_3 := hN
  clear hN
  obtain ⟨lq, hlq⟩ : ∃ q, q = y0.heap.size := ⟨_, rfl⟩
  rw [← hlq] at hr1_3 ⊢
  have hlqw : w.heap.size + 1 + 1 < lq := by have := hl1_2; omega
  have hlql := lt_heap hr1_3
  clear hlq hs1
  obtain ⟨bl, hbl⟩ : ∃ b, b = y1.heap.size := ⟨_, rfl⟩
  have hbl1 : lq < bl := by omega
  have hbl2 : bl ≤ y1.heap.size := by omega
  have hbl3 : y1.heap.size ≤ bl := by omega
  clear hbl
  go_upto_region 6 with fail
  go_loopw [15, 14] (fun bv tv wr => ∃ (rr : Nat) (r2 : Int) (A : Ac), rr ≤ 5 ∧ bv = .int .i64 r2 ∧ tv = .int .i64 A.t ∧ Hid (r2 = (rr : Int) - 2) ∧ Hid (A = acc f L Wn Hn lv x y (rr * 5)) ∧ wr.heap[lq]? = some (.cells #[.int .i64 A.r, .int .i64 A.g, .int .i64 A.b] 54 (0, 0)) ∧ Hid (Aw (fun z => z < bl ∧ z ≠ lq) y1 wr)) (fun bv _ _ => (3 - intOf bv).toNat)
  case atStart => exact ⟨0, -2, ⟨0, 0, 0, 0⟩, Nat.zero_le _, rfl, rfl, Lib.hid rfl, Lib.hid rfl, hr1_3, Lib.hid (Aw.refl _ _)⟩
  case round =>
    obtain ⟨rr, r2, A, hrr, rfl, rfl, HR2, HA, hlr, HW⟩ := hrel
    obtain ⟨aR, aG, aB, aT⟩ := A
    simp only [] at hlr
    have hr2b : -2 ≤ r2 ∧ r2 ≤ 3 := by have := HR2.out; omega
    have hr2_0 := (HW.out.block _ ⟨by have := lt_heap hr1_0; omega, by omega⟩ (lt_heap hr1_0)).trans hr1_0
    have hr2_1 := (HW.out.block _ ⟨by have := lt_heap hr1_1; omega, by omega⟩ (lt_heap hr1_1)).trans hr1_1
    have hr2_2 := (HW.out.block _ ⟨by have := lt_heap hr1_2; omega, by omega⟩ (lt_heap hr1_2)).trans hr1_2
    have hr2_3 := hlr
    clear hlr
    have HU2 := Lib.hid (HU1.out.trans (aw_low HW.out (b := w.heap.size) (by have := HU1.out.size; omega) (by omega) (HU1.out.size)))
    obtain ⟨y2, hy_⟩ : ∃ y, y = wr := ⟨_, rfl⟩
    rw [← hy_] at hr2_0 hr2_1 hr2_2 hr2_3 HU2 HW ⊢
    clear hy_
    by_cases hlt : rr < 5
    · have drr : decide (r2 ≤ 2) = true := decide_eq_true (by have := HR2.out; omega)
      have hr2c : r2 ≤ 2 := by have := HR2.out; omega
      obtain ⟨z7, z8⟩ := wrap_in (z := r2 + 1) (by omega) (by omega)
      go_upto_region 9 with fail
      clear drr
      go_loopw [16, 14] (fun av tv wr => ∃ (cc : Nat) (c2 : Int) (A : Ac), cc ≤ 5 ∧ av = .int .i64 c2 ∧ tv = .int .i64 A.t ∧ Hid (c2 = (cc : Int) - 2) ∧ Hid (A = acc f L Wn Hn lv x y (rr * 5 + cc)) ∧ wr.heap[lq]? = some (.cells #[.int .i64 A.r, .int .i64 A.g, .int .i64 A.b] 54 (0, 0)) ∧ Hid (Aw (fun z => z < bl ∧ z ≠ lq) y1 wr)) (fun av _ _ => (3 - intOf av).toNat)
      case atStart => exact ⟨0, -2, ⟨aR, aG, aB, aT⟩, Nat.zero_le _, rfl, rfl, Lib.hid rfl, HA, hr2_3, HW⟩
      case round =>
        clear HA HW
        obtain ⟨cc, c2, A, hcc, rfl, rfl, HC2, HA, hlr, HW⟩ := hrel
        obtain ⟨aR, aG, aB, aT⟩ := A
        simp only [] at hlr
        have hc2b : -2 ≤ c2 ∧ c2 ≤ 3 := by have := HC2.out; omega
        have hr3_0 := (HW.out.block _ ⟨by have := lt_heap hr1_0; omega, by omega⟩ (lt_heap hr1_0)).trans hr1_0
        have hr3_1 := (HW.out.block _ ⟨by have := lt_heap hr1_1; omega, by omega⟩ (lt_heap hr1_1)).trans hr1_1
        have hr3_2 := (HW.out.block _ ⟨by have := lt_heap hr1_2; omega, by omega⟩ (lt_heap hr1_2)).trans hr1_2
        have hr3_3 := hlr
        clear hlr
        have HU3 := Lib.hid (HU1.out.trans (aw_low HW.out (b := w.heap.size) (by have := HU1.out.size; omega) (by omega) (HU1.out.size)))
        obtain ⟨y3, hy_⟩ : ∃ y, y = wr := ⟨_, rfl⟩
        rw [← hy_] at hr3_0 hr3_1 hr3_2 hr3_3 HU3 HW ⊢
        clear hy_
        by_cases hlt2 : cc < 5
        · have dcc : decide (c2 ≤ 2) = true := decide_eq_true (by have := HC2.out; omega)
          have hc2c : c2 ≤ 2 := by have := HC2.out; omega
          obtain ⟨mm, hmm⟩ : ∃ mm, mm = rr * 5 + cc := ⟨_, rfl⟩
          have hm5 : mm % 5 = cc := by omega
          have hd5 : mm / 5 = rr := by omega
          have hc2 := HC2.out
          have hr2 := HR2.out
          have hb1 := cs_bd HLV.out (show -2 ≤ c2 by omega) (by omega)
          have hb2 := cs_bd HLV.out (show -2 ≤ r2 by omega) (by omega)
          rw [← HST.out] at hb1 hb2
          obtain ⟨cs, hcs⟩ : ∃ t, t = c2 * st := ⟨_, rfl⟩
          obtain ⟨rs, hrs⟩ : ∃ t, t = r2 * st := ⟨_, rfl⟩
          rw [← hcs] at hb1
          rw [← hrs] at hb2
          obtain ⟨u, hu⟩ : ∃ t, t = (x : Int) + cs := ⟨_, rfl⟩
          obtain ⟨v, hv⟩ : ∃ t, t = (y : Int) + rs := ⟨_, rfl⟩
          have HU_ := Lib.hid (show u = px x lv mm by rw [hu, hcs, hc2, HST.out]; unfold px; rw [hm5])
          have HV_ := Lib.hid (show v = py y lv mm by rw [hv, hrs, hr2, HST.out]; unfold py; rw [hd5])
          obtain ⟨w5, w6⟩ := wrap_is hcs.symm (by omega) (by omega)
          obtain ⟨w7, w8⟩ := wrap_is hrs.symm (by omega) (by omega)
          obtain ⟨w9, w10⟩ := wrap_is hu.symm (by omega) (by omega)
          obtain ⟨w11, w12⟩ := wrap_is hv.symm (by omega) (by omega)
          obtain ⟨z9, z10⟩ := wrap_in (z := c2 + 1) (by omega) (by omega)
          have HMM := Lib.hid hmm
          have HM5 := Lib.hid hm5
          have HD5 := Lib.hid hd5
          rw [← hmm] at HA
          clear hmm hm5 hd5 hc2 hr2 hcs hrs hu hv hb1 hb2
          go_upto_region 12 with fail
          clear dcc w5 w6 w7 w8 w9 w10 w11 w12
          by_cases e0 : u < 0
          · have d0 := decide_eq_true e0
            have hin : ¬ ins Wn Hn u v := fun k => by have k1 := k.1.1; have k2 := k.1.2; have k3 := k.2.1; have k4 := k.2.2; omega
            have HA2 := Lib.hid (show (⟨aR, aG, aB, aT⟩ : Ac) = acc f L Wn Hn lv x y (rr * 5 + (cc + 1)) by rw [← Nat.add_assoc, ← HMM.out, acc_out (by rw [← HU_.out, ← HV_.out]; exact hin)]; exact HA.out)
            clear hin
            have c1_0 := cell_of_row _ _ 0 _ _ _ hr3_1
            have c1_1 := cell_of_row _ _ 1 _ _ _ hr3_1
            have c1_2 := cell_of_row _ _ 2 _ _ _ hr3_1
            simp at c1_0 c1_1 c1_2
            go_wp2_with fail
            go_roundw
            case rel => exact ⟨cc + 1, c2 + 1, ⟨aR, aG, aB, aT⟩, by omega, by first | rfl | go_num, rfl, Lib.hid (by have := HC2.out; omega), HA2, hr3_3, HW⟩
            case measure => simp [intOf]; omega
          have d0 := decide_eq_false e0
          by_cases e1 : (Wn : Int) ≤ u
          · have d1 := decide_eq_true e1
            have hin : ¬ ins Wn Hn u v := fun k => by have k1 := k.1.1; have k2 := k.1.2; have k3 := k.2.1; have k4 := k.2.2; omega
            have HA2 := Lib.hid (show (⟨aR, aG, aB, aT⟩ : Ac) = acc f L Wn Hn lv x y (rr * 5 + (cc + 1)) by rw [← Nat.add_assoc, ← HMM.out, acc_out (by rw [← HU_.out, ← HV_.out]; exact hin)]; exact HA.out)
            clear hin
            have c1_0 := cell_of_row _ _ 0 _ _ _ hr3_1
            have c1_1 := cell_of_row _ _ 1 _ _ _ hr3_1
            have c1_2 := cell_of_row _ _ 2 _ _ _ hr3_1
            simp at c1_0 c1_1 c1_2
            go_wp2_with fail
            go_roundw
            case rel => exact ⟨cc + 1, c2 + 1, ⟨aR, aG, aB, aT⟩, by omega, by first | rfl | go_num, rfl, Lib.hid (by have := HC2.out; omega), HA2, hr3_3, HW⟩
            case measure => simp [intOf]; omega
          have d1 := decide_eq_false e1
          by_cases e2 : v < 0
          · have d2 := decide_eq_true e2
            have hin : ¬ ins Wn Hn u v := fun k => by have k1 := k.1.1; have k2 := k.1.2; have k3 := k.2.1; have k4 := k.2.2; omega
            have HA2 := Lib.hid (show (⟨aR, aG, aB, aT⟩ : Ac) = acc f L Wn Hn lv x y (rr * 5 + (cc + 1)) by rw [← Nat.add_assoc, ← HMM.out, acc_out (by rw [← HU_.out, ← HV_.out]; exact hin)]; exact HA.out)
            clear hin
            have c1_0 := cell_of_row _ _ 0 _ _ _ hr3_1
            have c1_1 := cell_of_row _ _ 1 _ _ _ hr3_1
            have c1_2 := cell_of_row _ _ 2 _ _ _ hr3_1
            simp at c1_0 c1_1 c1_2
            go_wp2_with fail
            go_roundw
            case rel => exact ⟨cc + 1, c2 + 1, ⟨aR, aG, aB, aT⟩, by omega, by first | rfl | go_num, rfl, Lib.hid (by have := HC2.out; omega), HA2, hr3_3, HW⟩
            case measure => simp [intOf]; omega
          have d2 := decide_eq_false e2
          by_cases e3 : (Hn : Int) ≤ v
          · have d3 := decide_eq_true e3
            have hin : ¬ ins Wn Hn u v := fun k => by have k1 := k.1.1; have k2 := k.1.2; have k3 := k.2.1; have k4 := k.2.2; omega
            have HA2 := Lib.hid (show (⟨aR, aG, aB, aT⟩ : Ac) = acc f L Wn Hn lv x y (rr * 5 + (cc + 1)) by rw [← Nat.add_assoc, ← HMM.out, acc_out (by rw [← HU_.out, ← HV_.out]; exact hin)]; exact HA.out)
            clear hin
            have c1_0 := cell_of_row _ _ 0 _ _ _ hr3_1
            have c1_1 := cell_of_row _ _ 1 _ _ _ hr3_1
            have c1_2 := cell_of_row _ _ 2 _ _ _ hr3_1
            simp at c1_0 c1_1 c1_2
            go_wp2_with fail
            go_roundw
            case rel => exact ⟨cc + 1, c2 + 1, ⟨aR, aG, aB, aT⟩, by omega, by first | rfl | go_num, rfl, Lib.hid (by have := HC2.out; omega), HA2, hr3_3, HW⟩
            case measure => simp [intOf]; omega
          have d3 := decide_eq_false e3
          have hin : ins Wn Hn u v := ⟨⟨by omega, by omega⟩, by omega, by omega⟩
          have hkl : pn Wn u v < n := by rw [HN.out]; exact pn_lt hin
          obtain ⟨k, hk⟩ : ∃ k, k = pn Wn u v := ⟨_, rfl⟩
          rw [← hk] at hkl
          have HK := Lib.hid hk
          have hkl' : (k : Int) < n := by omega
          have hkv : (k : Int) = v * (Wn : Int) + u := by rw [hk]; unfold pn; push_cast; rw [Int.toNat_of_nonneg hin.1.1, Int.toNat_of_nonneg hin.2.1]
          have hvm : 0 ≤ v * (Wn : Int) ∧ v * (Wn : Int) ≤ 4096 := ⟨Int.mul_nonneg (by omega) (by omega), by have a_ := Int.mul_le_mul (show v ≤ 64 by omega) (show (Wn : Int) ≤ 64 by omega) (by omega) (by omega); omega⟩
          obtain ⟨vw, hvw⟩ : ∃ t, t = v * (Wn : Int) := ⟨_, rfl⟩
          rw [← hvw] at hkv hvm
          obtain ⟨w1, w2⟩ := wrap_is hvw.symm (by omega) (by omega)
          obtain ⟨w3, w4⟩ := wrap_is hkv.symm (by omega) (by omega)
          clear hk hkv hvm hvw
          obtain ⟨t0, t1⟩ := tt_bd cc rr
          obtain ⟨ta, hta⟩ : ∃ t, t = tp cc := ⟨_, rfl⟩
          obtain ⟨td, htd⟩ : ∃ t, t = tp rr := ⟨_, rfl⟩
          rw [← hta, ← htd] at t0 t1
          obtain ⟨tt, htt⟩ : ∃ t, t = ta * td := ⟨_, rfl⟩
          rw [← htt] at t0 t1
          obtain ⟨z1, z2⟩ := wrap_is htt.symm (by omega) (by omega)
          obtain ⟨wg, hwg⟩ : ∃ t, t = wgt f L lv mid k := ⟨_, rfl⟩
          obtain ⟨wm, hwm⟩ : ∃ t, t = Pl.mul (Pl.ofWhole tt) wg := ⟨_, rfl⟩
          have HWM := Lib.hid (show wm = mw f L lv (y * Wn + x) (pn Wn u v) mm by rw [hwm, htt, hwg, hta, htd, ← HMD.out, ← HK.out]; unfold mw; rw [HM5.out, HD5.out])
          have HTA := Lib.hid (show ∀ W : World, Calls Tryd.prog 37 #[.int .i64 c2] W (fun e' w' => e' = .returned (.int .i64 ta) ∧ W = w') from fun W => by rw [hta]; exact tap_any c2 cc hlt2 HC2.out W)
          have HTD := Lib.hid (show ∀ W : World, Calls Tryd.prog 37 #[.int .i64 r2] W (fun e' w' => e' = .returned (.int .i64 td) ∧ W = w') from fun W => by rw [htd]; exact tap_any r2 rr hlt HR2.out W)
          have HML := Lib.hid (show ∀ W : World, Calls Tryd.prog 31 #[.int .i64 (Pl.ofWhole tt), .int .i64 wg] W (fun e' w' => e' = .returned (.int .i64 wm) ∧ W = w') from fun W => by rw [hwm]; exact Wa.refMul_any _ _ W)
          have HWG := Lib.hid hwg
          clear htt hwm hta htd hwg
          have c1_0 := cell_of_row _ _ 0 _ _ _ hr3_1
          have c1_1 := cell_of_row _ _ 1 _ _ _ hr3_1
          have c1_2 := cell_of_row _ _ 2 _ _ _ hr3_1
          simp at c1_0 c1_1 c1_2
          go_upto_region 15 with fail
          clear d0 d1 d2 d3 w1 w2 w3 w4 e0 e1 e2 e3
          clear c1_0 c1_1 c1_2
          by_cases hik : mid = k
          case pos =>
            have HW1_ := Lib.hid (show wg = 65536 by rw [HWG.out]; exact if_pos hik)
            have dmk : ((mid : Int) != (k : Int)) = false := by simpa using (show (mid : Int) = k by omega)
            have HML2 := Lib.hid (show ∀ W : World, Calls Tryd.prog 31 #[.int .i64 (Pl.ofWhole tt), .int .i64 65536] W (fun e' w' => e' = .returned (.int .i64 wm) ∧ W = w') from fun W => by rw [← HW1_.out]; exact HML.out W)
            clear HML hik
            have HML := HML2
            clear HML2
            go_wp2_with fail
            refine (HTA.out _).mono ?_
            rintro e ww ⟨rfl, rfl⟩
            go_wp2_with fail
            refine (HTD.out _).mono ?_
            rintro e ww ⟨rfl, rfl⟩
            go_wp2_with fail
            refine (Wa.refOf_any _ _).mono ?_
            rintro e ww ⟨rfl, rfl⟩
            go_wp2_with fail
            refine (HML.out _).mono ?_
            rintro e ww ⟨rfl, rfl⟩
            go_upto_region 19 with fail
            have HW3 := HW
            obtain ⟨lb, lo, hla, e0, e1, e2⟩ := (HL.out.on HU3.out).at3 hkl
            subst hla
            obtain ⟨l0, hl0⟩ : ∃ t, t = L (k * 3) := ⟨_, rfl⟩
            rw [← hl0] at e0
            obtain ⟨l1, hl1⟩ : ∃ t, t = L (k * 3 + 1) := ⟨_, rfl⟩
            rw [← hl1] at e1
            obtain ⟨l2, hl2⟩ : ∃ t, t = L (k * 3 + 2) := ⟨_, rfl⟩
            rw [← hl2] at e2
            obtain ⟨p0, hp0⟩ : ∃ t, t = Pl.mul l0 wm := ⟨_, rfl⟩
            obtain ⟨q0, hq0⟩ : ∃ t, t = Pl.add aR p0 := ⟨_, rfl⟩
            obtain ⟨p1, hp1⟩ : ∃ t, t = Pl.mul l1 wm := ⟨_, rfl⟩
            obtain ⟨q1, hq1⟩ : ∃ t, t = Pl.add aG p1 := ⟨_, rfl⟩
            obtain ⟨p2, hp2⟩ : ∃ t, t = Pl.mul l2 wm := ⟨_, rfl⟩
            obtain ⟨q2, hq2⟩ : ∃ t, t = Pl.add aB p2 := ⟨_, rfl⟩
            have HAC := Lib.hid (show (⟨q0, q1, q2, Pl.add aT wm⟩ : Ac) = acc f L Wn Hn lv x y (rr * 5 + (cc + 1)) by rw [← Nat.add_assoc, ← HMM.out, acc_in (by rw [← HU_.out, ← HV_.out]; exact hin), ← HA.out, ← HU_.out, ← HV_.out, ← HWM.out, ← HK.out]; unfold stp; simp only []; rw [hq0, hq1, hq2, hp0, hp1, hp2, hl0, hl1, hl2])
            have HSC := Lib.hid (show ∀ W : World, Calls Tryd.prog 39 #[.agg #[.int .i64 l0, .int .i64 l1, .int .i64 l2], .int .i64 wm] W (fun e' w' => e' = .returned (.agg #[.int .i64 p0, .int .i64 p1, .int .i64 p2]) ∧ Below W.heap.size W w') from fun W => by rw [hp0, hp1, hp2]; exact He.rhscale_any _ _ _ _ W)
            have HAD := Lib.hid (show ∀ W : World, Calls Tryd.prog 38 #[.agg #[.int .i64 aR, .int .i64 aG, .int .i64 aB], .agg #[.int .i64 p0, .int .i64 p1, .int .i64 p2]] W (fun e' w' => e' = .returned (.agg #[.int .i64 q0, .int .i64 q1, .int .i64 q2]) ∧ Below W.heap.size W w') from fun W => by rw [hq0, hq1, hq2]; exact He.rhadd_any _ _ _ _ _ _ W)
            clear hl0 hl1 hl2 hp0 hp1 hp2 hq0 hq1 hq2
            refine Ol.way_drew (S := fun y => y.heap[w.heap.size + 1]? = some (.cells #[.int .i64 (Wn : Nat), .int .i64 (Hn : Nat), .slice (some ⟨lb, lo, none⟩) n c] 24 (0, 0)) ∧ y.heap[lq]? = some (.cells #[.int .i64 aR, .int .i64 aG, .int .i64 aB] 54 (0, 0)) ∧ y.cell? ⟨lb, lo + k * 3, none⟩ = some (.int .i64 l0) ∧ y.cell? ⟨lb, lo + k * 3 + 1, none⟩ = some (.int .i64 l1) ∧ y.cell? ⟨lb, lo + k * 3 + 2, none⟩ = some (.int .i64 l2)) (stop := 9) (by kernel_rfl) (⟨hr3_1, hr3_3, e0, e1, e2⟩) (fun hS0 => ?_)
            obtain ⟨y4, hy4⟩ : ∃ y, y3.drew = y := ⟨_, rfl⟩
            have HU4 := Lib.hid (show Below w.heap.size w y4 by rw [← hy4]; exact HU3.out.drew)
            have hr4_0 : y4.heap[w.heap.size]? = some (.cells (FC f p) 29 (0, 0)) := by rw [← hy4]; exact hr3_0
            have hr4_1 : y4.heap[w.heap.size + 1]? = some (.cells #[.int .i64 (Wn : Nat), .int .i64 (Hn : Nat), .slice (some ⟨lb, lo, none⟩) n c] 24 (0, 0)) := by rw [← hy4]; exact hr3_1
            have hr4_2 : y4.heap[w.heap.size + 1 + 1]? = some (.cells #[.int .i64 0, .int .i64 0, .int .i64 0] 54 (0, 0)) := by rw [← hy4]; exact hr3_2
            have hr4_3 : y4.heap[lq]? = some (.cells #[.int .i64 aR, .int .i64 aG, .int .i64 aB] 54 (0, 0)) := by rw [← hy4]; exact hr3_3
            have HW4 := Lib.hid (show Aw (fun z => z < bl ∧ z ≠ lq) y1 y4 by rw [← hy4]; exact HW3.out.trans (Aw.of (Below.refl _ _).drew))
            rw [hy4] at hS0 ⊢
            clear hy4
            refine Ol.way_take (i := 0) (v := ?_) rfl (by kernel_rfl) (by kernel_rfl) (by kernel_rfl) (fun _ _ _ h => h) (by decide) (by kernel_rfl) (by kernel_rfl) (Or.inl ⟨by kernel_rfl, by (intro wz hSz; have c1_0 := cell_of_row _ _ 0 _ _ _ hSz.1; have c1_1 := cell_of_row _ _ 1 _ _ _ hSz.1; have c1_2 := cell_of_row _ _ 2 _ _ _ hSz.1; have c3_0 := cell_of_row _ _ 0 _ _ _ hSz.2.1; have c3_1 := cell_of_row _ _ 1 _ _ _ hSz.2.1; have c3_2 := cell_of_row _ _ 2 _ _ _ hSz.2.1; simp at c1_0 c1_1 c1_2 c3_0 c3_1 c3_2; have e0z := hSz.2.2.1; have e1z := hSz.2.2.2.1; have e2z := hSz.2.2.2.2; go_simp; try with_reducible rfl)⟩) hS0 ?_
            go_simp
            refine Ol.way_plain (i := 1) (v := ?_) rfl (by kernel_rfl) (by kernel_rfl) (by kernel_rfl) (fun _ _ _ h => h) (by decide) (Or.inl ⟨by kernel_rfl, by (intro wz _; go_simp; try with_reducible rfl)⟩) (Ol.on hS0) ?_
            go_simp
            refine Ol.way_take (i := 2) (v := ?_) rfl (by kernel_rfl) (by kernel_rfl) (by kernel_rfl) (fun _ _ _ h => h) (by decide) (by kernel_rfl) (by kernel_rfl) (Or.inl ⟨by kernel_rfl, by (intro wz hSz; have c1_0 := cell_of_row _ _ 0 _ _ _ hSz.1; have c1_1 := cell_of_row _ _ 1 _ _ _ hSz.1; have c1_2 := cell_of_row _ _ 2 _ _ _ hSz.1; have c3_0 := cell_of_row _ _ 0 _ _ _ hSz.2.1; have c3_1 := cell_of_row _ _ 1 _ _ _ hSz.2.1; have c3_2 := cell_of_row _ _ 2 _ _ _ hSz.2.1; simp at c1_0 c1_1 c1_2 c3_0 c3_1 c3_2; have e0z := hSz.2.2.1; have e1z := hSz.2.2.2.1; have e2z := hSz.2.2.2.2; go_simp; try with_reducible rfl)⟩) hS0 ?_
            go_simp
            refine Ol.way_plain (i := 3) (v := ?_) rfl (by kernel_rfl) (by kernel_rfl) (by kernel_rfl) (fun _ _ _ h => h) (by decide) (Or.inl ⟨by kernel_rfl, by (intro wz _; go_simp; try with_reducible rfl)⟩) (Ol.on hS0) ?_
            go_simp
            refine Ol.way_plain (i := 4) (v := ?_) rfl (by kernel_rfl) (by kernel_rfl) (by kernel_rfl) (fun _ _ _ h => h) (by decide) (Or.inl ⟨by kernel_rfl, by (intro wz _; go_simp; try with_reducible rfl)⟩) (Ol.on hS0) ?_
            go_simp
            refine Ol.way_take (i := 5) (v := ?_) rfl (by kernel_rfl) (by kernel_rfl) (by kernel_rfl) (fun _ _ _ h => h) (by decide) (by kernel_rfl) (by kernel_rfl) (Or.inl ⟨by kernel_rfl, by (intro wz hSz; have c1_0 := cell_of_row _ _ 0 _ _ _ hSz.1; have c1_1 := cell_of_row _ _ 1 _ _ _ hSz.1; have c1_2 := cell_of_row _ _ 2 _ _ _ hSz.1; have c3_0 := cell_of_row _ _ 0 _ _ _ hSz.2.1; have c3_1 := cell_of_row _ _ 1 _ _ _ hSz.2.1; have c3_2 := cell_of_row _ _ 2 _ _ _ hSz.2.1; simp at c1_0 c1_1 c1_2 c3_0 c3_1 c3_2; have e0z := hSz.2.2.1; have e1z := hSz.2.2.2.1; have e2z := hSz.2.2.2.2; go_simp; try with_reducible rfl)⟩) hS0 ?_
            go_simp
            refine Ol.way_plain (i := 6) (v := ?_) rfl (by kernel_rfl) (by kernel_rfl) (by kernel_rfl) (fun _ _ _ h => h) (by decide) (Or.inl ⟨by kernel_rfl, by (intro wz _; go_simp; try with_reducible rfl)⟩) (Ol.on hS0) ?_
            go_simp
            refine Ol.way_ready (rs := [7]) (by kernel_rfl) (by simp) ?_
            refine Ol.Each.cons rfl (fun K hK => ?_) Ol.Each.nil
            go_simp
            go_wp2_with (go_at_call 39; refine (HSC.out _).mono ?_; rintro e y5 ⟨rfl, hb5⟩; have HW5 := Lib.hid (HW4.out.trans (Aw.of hb5)))
            have hr5_0 := (hb5.block _ (lt_heap hr4_0)).trans hr4_0
            have hr5_1 := (hb5.block _ (lt_heap hr4_1)).trans hr4_1
            have hr5_2 := (hb5.block _ (lt_heap hr4_2)).trans hr4_2
            have hr5_3 := (hb5.block _ (lt_heap hr4_3)).trans hr4_3
            have HU5 := Lib.hid (HU4.out.trans (hb5.mono HU4.out.size))
            refine Ol.keep hK _ _ (⟨(hb5.block _ (lt_heap hS0.1)).trans hS0.1, (hb5.block _ (lt_heap hS0.2.1)).trans hS0.2.1, (hb5.cell (p := ⟨lb, lo + k * 3, none⟩) (World.block_lt_of_cell? _ _ (hS0.2.2.1))).trans hS0.2.2.1, (hb5.cell (p := ⟨lb, lo + k * 3 + 1, none⟩) (World.block_lt_of_cell? _ _ (hS0.2.2.2.1))).trans hS0.2.2.2.1, (hb5.cell (p := ⟨lb, lo + k * 3 + 2, none⟩) (World.block_lt_of_cell? _ _ (hS0.2.2.2.2))).trans hS0.2.2.2.2⟩) (fun hS5c => ?_)
            clear hK K
            refine Ol.way_ready (rs := [8]) (by kernel_rfl) (by simp) ?_
            refine Ol.Each.cons rfl (fun K hK => ?_) Ol.Each.nil
            go_simp
            go_wp2_with (go_at_call 38; refine (HAD.out _).mono ?_; rintro e y6 ⟨rfl, hb6⟩; have HW6 := Lib.hid (HW5.out.trans (Aw.of hb6)))
            have hr6_0 := (hb6.block _ (lt_heap hr5_0)).trans hr5_0
            have hr6_1 := (hb6.block _ (lt_heap hr5_1)).trans hr5_1
            have hr6_2 := (hb6.block _ (lt_heap hr5_2)).trans hr5_2
            have hr6_3 := (hb6.block _ (lt_heap hr5_3)).trans hr5_3
            have HU6 := Lib.hid (HU5.out.trans (hb6.mono HU5.out.size))
            refine Ol.keep hK _ _ (⟨(hb6.block _ (lt_heap hS5c.1)).trans hS5c.1, (hb6.block _ (lt_heap hS5c.2.1)).trans hS5c.2.1, (hb6.cell (p := ⟨lb, lo + k * 3, none⟩) (World.block_lt_of_cell? _ _ (hS5c.2.2.1))).trans hS5c.2.2.1, (hb6.cell (p := ⟨lb, lo + k * 3 + 1, none⟩) (World.block_lt_of_cell? _ _ (hS5c.2.2.2.1))).trans hS5c.2.2.2.1, (hb6.cell (p := ⟨lb, lo + k * 3 + 2, none⟩) (World.block_lt_of_cell? _ _ (hS5c.2.2.2.2))).trans hS5c.2.2.2.2⟩) (fun hS6c => ?_)
            clear hK K
            refine Ol.way_ready (rs := [9]) (by kernel_rfl) (by simp) ?_
            refine Ol.Each.cons rfl (fun K hK => ?_) Ol.Each.nil
            refine step_store_row rfl 54 (.tmp 13) (.tmp 117) rfl #[.int .i64 aR, .int .i64 aG, .int .i64 aB] #[.int .i64 q0, .int .i64 q1, .int .i64 q2] _ 54 hr6_3 rfl (by first | rfl | (go_simp; done) | (go_simp; rfl)) (by kernel_rfl) rfl (by simp [Value.oneCell']) ?_
            have hN := setRow_heap _ (lq) _ #[.int .i64 q0, .int .i64 q1, .int .i64 q2] _ _ hr6_3
            have hsz := HU6.out.size
            have HUx := below_setRow (g := lq) HU6.out (by first | omega | (simp at *; omega)) #[.int .i64 q0, .int .i64 q1, .int .i64 q2]
            obtain ⟨y7, hy7⟩ : ∃ y, y6.setRow (lq) #[.int .i64 q0, .int .i64 q1, .int .i64 q2] = y := ⟨_, rfl⟩
            have hO : ∀ k, k ≠ lq → y7.heap[k]? = y6.heap[k]? := fun k hk => by rw [← hy7]; exact setRow_other _ _ _ _ hk
            have hSo : y7.os = y6.os ∧ y7.tape = y6.tape ∧ y7.output = y6.output ∧ y6.heap.size ≤ y7.heap.size := by rw [← hy7]; exact ⟨rfl, rfl, rfl, by simp [World.setRow]⟩
            rw [hy7] at hN HUx ⊢
            clear hy7
            have HU7 := Lib.hid HUx
            clear HUx
            have hr7_0 := (hO _ (by omega)).trans hr6_0
            have hr7_1 := (hO _ (by omega)).trans hr6_1
            have hr7_2 := (hO _ (by omega)).trans hr6_2
            have hr7_3 := hN
            clear hN
            refine Ol.past hK (by kernel_rfl) _ _ ?_
            clear hK K
            refine Ol.way_done (by kernel_rfl) ?_ _
            have HW7 := Lib.hid (show Aw (fun z => z < bl ∧ z ≠ lq) y1 y7 from ⟨hSo.1.trans HW6.out.os, hSo.2.1.trans HW6.out.tape, hSo.2.2.1.trans HW6.out.output, Nat.le_trans HW6.out.size hSo.2.2.2, fun k' h1 h2 => (hO k' h1.2).trans (HW6.out.block k' h1 h2)⟩)
            go_wp2_with fail
            refine (Wa.refAdd_any _ _ _).mono ?_
            rintro e ww ⟨rfl, rfl⟩
            go_wp2_with fail
            go_roundw
            case rel => exact ⟨cc + 1, c2 + 1, ⟨q0, q1, q2, Pl.add aT wm⟩, by omega, by first | rfl | go_num, rfl, Lib.hid (by have := HC2.out; omega), HAC, hr7_3, HW7⟩
            case measure => simp [intOf]; omega
          have dmk : ((mid : Int) != (k : Int)) = true := by simpa using (fun e => hik (by omega) : ¬ (mid : Int) = k)
          obtain ⟨df, hdf_⟩ : ∃ t, t = hdf L mid k := ⟨_, rfl⟩
          obtain ⟨li, hli⟩ : ∃ t, t = Pl.mul ed df := ⟨_, rfl⟩
          obtain ⟨ls_, hls⟩ : ∃ t, t = Pl.div 65536 (Pl.add 65536 li) := ⟨_, rfl⟩
          obtain ⟨ak, hak⟩ : ∃ t, t = alk f mid k := ⟨_, rfl⟩
          have HWE := Lib.hid (show Pl.mul ak ls_ = wg by rw [HWG.out, show wgt f L lv mid k = _ from if_neg hik, hak, hls, hli, hdf_, HED.out]; rfl)
          have HLI := Lib.hid (show ∀ W : World, Calls Tryd.prog 31 #[.int .i64 ed, .int .i64 df] W (fun e' w' => e' = .returned (.int .i64 li) ∧ W = w') from fun W => by rw [hli]; exact Wa.refMul_any _ _ W)
          have HDV := Lib.hid (show ∀ W : World, Calls Tryd.prog 35 #[.int .i64 65536, .int .i64 (Pl.add 65536 li)] W (fun e' w' => e' = .returned (.int .i64 ls_) ∧ W = w') from fun W => by rw [hls]; exact Wa.refDiv_any _ _ W)
          have HAK := Lib.hid (fun (W : World) (hW : Below w.heap.size w W) => (show Calls Tryd.prog 34 #[.agg (FC f p), .int .i64 (mid : Int), .int .i64 (k : Int)] W (fun e' w' => e' = .returned (.int .i64 ak) ∧ Below W.heap.size W w') by rw [hak]; exact dalike_any f p mid k W (HF.out.on hW) HO.out (by rw [HNS.out]; exact hmidl) (by rw [HNS.out]; exact hkl)))
          have HMW := Lib.hid (show ∀ W : World, Calls Tryd.prog 31 #[.int .i64 ak, .int .i64 ls_] W (fun e' w' => e' = .returned (.int .i64 wg) ∧ W = w') from fun W => by rw [← HWE.out]; exact Wa.refMul_any _ _ W)
          go_upto_region 16 with fail
          obtain ⟨lb, lo, hla, ea0, ea1, ea2⟩ := (HL.out.on HU3.out).at3 hmidl
          obtain ⟨lb', lo', hlb, eb0, eb1, eb2⟩ := (HL.out.on HU3.out).at3 hkl
          rw [hla] at hlb
          cases hlb
          subst hla
          obtain ⟨a0_, ha0_⟩ : ∃ t, t = L (mid * 3) := ⟨_, rfl⟩
          rw [← ha0_] at ea0
          obtain ⟨a1_, ha1_⟩ : ∃ t, t = L (mid * 3 + 1) := ⟨_, rfl⟩
          rw [← ha1_] at ea1
          obtain ⟨a2_, ha2_⟩ : ∃ t, t = L (mid * 3 + 2) := ⟨_, rfl⟩
          rw [← ha2_] at ea2
          obtain ⟨b0_, hb0_⟩ : ∃ t, t = L (k * 3) := ⟨_, rfl⟩
          rw [← hb0_] at eb0
          obtain ⟨b1_, hb1_⟩ : ∃ t, t = L (k * 3 + 1) := ⟨_, rfl⟩
          rw [← hb1_] at eb1
          obtain ⟨b2_, hb2_⟩ : ∃ t, t = L (k * 3 + 2) := ⟨_, rfl⟩
          rw [← hb2_] at eb2
          have HDF := Lib.hid (show ∀ W : World, Calls Tryd.prog 33 #[.agg #[.int .i64 a0_, .int .i64 a1_, .int .i64 a2_], .agg #[.int .i64 b0_, .int .i64 b1_, .int .i64 b2_]] W (fun e' w' => e' = .returned (.int .i64 df) ∧ Below W.heap.size W w') from fun W => by rw [hdf_, ha0_, ha1_, ha2_, hb0_, hb1_, hb2_]; exact rhdiff_any _ _ _ _ _ _ W)
          clear hdf_ hli hls hak ha0_ ha1_ ha2_ hb0_ hb1_ hb2_ hik dmk
          refine wp_region_held_drew (S := fun y => y.heap[w.heap.size + 1]? = some (.cells #[.int .i64 (Wn : Nat), .int .i64 (Hn : Nat), .slice (some ⟨lb, lo, none⟩) n c] 24 (0, 0)) ∧ y.heap[w.heap.size]? = some (.cells (FC f p) 29 (0, 0)) ∧ y.heap[lq]? = some (.cells #[.int .i64 aR, .int .i64 aG, .int .i64 aB] 54 (0, 0)) ∧ y.cell? ⟨lb, lo + mid * 3, none⟩ = some (.int .i64 a0_) ∧ y.cell? ⟨lb, lo + mid * 3 + 1, none⟩ = some (.int .i64 a1_) ∧ y.cell? ⟨lb, lo + mid * 3 + 2, none⟩ = some (.int .i64 a2_) ∧ y.cell? ⟨lb, lo + k * 3, none⟩ = some (.int .i64 b0_) ∧ y.cell? ⟨lb, lo + k * 3 + 1, none⟩ = some (.int .i64 b1_) ∧ y.cell? ⟨lb, lo + k * 3 + 2, none⟩ = some (.int .i64 b2_)) (by kernel_rfl) (⟨hr3_1, hr3_0, hr3_3, ea0, ea1, ea2, eb0, eb1, eb2⟩) (fun hS0 => ?_)
          obtain ⟨y4, hy4⟩ : ∃ y, y3.drew = y := ⟨_, rfl⟩
          have HU4 := Lib.hid (show Below w.heap.size w y4 by rw [← hy4]; exact HU3.out.drew)
          have hr4_0 : y4.heap[w.heap.size]? = some (.cells (FC f p) 29 (0, 0)) := by rw [← hy4]; exact hr3_0
          have hr4_1 : y4.heap[w.heap.size + 1]? = some (.cells #[.int .i64 (Wn : Nat), .int .i64 (Hn : Nat), .slice (some ⟨lb, lo, none⟩) n c] 24 (0, 0)) := by rw [← hy4]; exact hr3_1
          have hr4_2 : y4.heap[w.heap.size + 1 + 1]? = some (.cells #[.int .i64 0, .int .i64 0, .int .i64 0] 54 (0, 0)) := by rw [← hy4]; exact hr3_2
          have hr4_3 : y4.heap[lq]? = some (.cells #[.int .i64 aR, .int .i64 aG, .int .i64 aB] 54 (0, 0)) := by rw [← hy4]; exact hr3_3
          have HW4 := Lib.hid (show Aw (fun z => z < bl ∧ z ≠ lq) y1 y4 by rw [← hy4]; exact HW.out.trans (Aw.of (Below.refl _ _).drew))
          rw [hy4] at hS0 ⊢
          clear hy4
          refine wpAnyH_take (i := 0) (v := ?_) rfl (by kernel_rfl) (by kernel_rfl) (by kernel_rfl) (fun _ _ _ h => h) (Or.inl ⟨by kernel_rfl, by (intro wz hSz; go_simp; try with_reducible rfl)⟩) hS0 ?_
          go_simp
          refine wpAnyH_take (i := 4) (v := ?_) rfl (by kernel_rfl) (by kernel_rfl) (by kernel_rfl) (fun _ _ _ h => h) (Or.inl ⟨by kernel_rfl, by (intro wz hSz; go_simp; try with_reducible rfl)⟩) hS0 ?_
          go_simp
          refine wpAnyH_take (i := 5) (v := ?_) rfl (by kernel_rfl) (by kernel_rfl) (by kernel_rfl) (fun _ _ _ h => h) (Or.inl ⟨by kernel_rfl, by (intro wz hSz; have c1_2 := cell_of_row _ _ 2 _ _ _ hSz.1; simp at c1_2; have ea0z := hSz.2.2.2.1; have ea1z := hSz.2.2.2.2.1; have ea2z := hSz.2.2.2.2.2.1; have eb0z := hSz.2.2.2.2.2.2.1; have eb1z := hSz.2.2.2.2.2.2.2.1; have eb2z := hSz.2.2.2.2.2.2.2.2; go_simp; try with_reducible rfl)⟩) hS0 ?_
          go_simp
          refine wpAnyH_take (i := 6) (v := ?_) rfl (by kernel_rfl) (by kernel_rfl) (by kernel_rfl) (fun _ _ _ h => h) (Or.inl ⟨by kernel_rfl, by (intro wz hSz; go_simp; try with_reducible rfl)⟩) hS0 ?_
          go_simp
          refine wpAnyH_take (i := 7) (v := ?_) rfl (by kernel_rfl) (by kernel_rfl) (by kernel_rfl) (fun _ _ _ h => h) (Or.inl ⟨by kernel_rfl, by (intro wz hSz; go_simp; try with_reducible rfl)⟩) hS0 ?_
          go_simp
          refine wpAnyH_take (i := 8) (v := ?_) rfl (by kernel_rfl) (by kernel_rfl) (by kernel_rfl) (fun _ _ _ h => h) (Or.inl ⟨by kernel_rfl, by (intro wz hSz; have c1_2 := cell_of_row _ _ 2 _ _ _ hSz.1; simp at c1_2; have ea0z := hSz.2.2.2.1; have ea1z := hSz.2.2.2.2.1; have ea2z := hSz.2.2.2.2.2.1; have eb0z := hSz.2.2.2.2.2.2.1; have eb1z := hSz.2.2.2.2.2.2.2.1; have eb2z := hSz.2.2.2.2.2.2.2.2; go_simp; try with_reducible rfl)⟩) hS0 ?_
          go_simp
          refine wpAnyH_take (i := 9) (v := ?_) rfl (by kernel_rfl) (by kernel_rfl) (by kernel_rfl) (fun _ _ _ h => h) (Or.inl ⟨by kernel_rfl, by (intro wz hSz; go_simp; try with_reducible rfl)⟩) hS0 ?_
          go_simp
          refine wpAnyH_take (i := 10) (v := ?_) rfl (by kernel_rfl) (by kernel_rfl) (by kernel_rfl) (fun _ _ _ h => h) (Or.inl ⟨by kernel_rfl, by (intro wz hSz; have c1_2 := cell_of_row _ _ 2 _ _ _ hSz.1; simp at c1_2; have ea0z := hSz.2.2.2.1; have ea1z := hSz.2.2.2.2.1; have ea2z := hSz.2.2.2.2.2.1; have eb0z := hSz.2.2.2.2.2.2.1; have eb1z := hSz.2.2.2.2.2.2.2.1; have eb2z := hSz.2.2.2.2.2.2.2.2; go_simp; try with_reducible rfl)⟩) hS0 ?_
          go_simp
          refine wpAnyH_take (i := 11) (v := ?_) rfl (by kernel_rfl) (by kernel_rfl) (by kernel_rfl) (fun _ _ _ h => h) (Or.inl ⟨by kernel_rfl, by (intro wz hSz; go_simp; try with_reducible rfl)⟩) hS0 ?_
          go_simp
          refine wpAnyH_take (i := 12) (v := ?_) rfl (by kernel_rfl) (by kernel_rfl) (by kernel_rfl) (fun _ _ _ h => h) (Or.inl ⟨by kernel_rfl, by (intro wz hSz; go_simp; try with_reducible rfl)⟩) hS0 ?_
          go_simp
          refine wpAnyH_take (i := 13) (v := ?_) rfl (by kernel_rfl) (by kernel_rfl) (by kernel_rfl) (fun _ _ _ h => h) (Or.inl ⟨by kernel_rfl, by (intro wz hSz; have c1_2 := cell_of_row _ _ 2 _ _ _ hSz.1; simp at c1_2; have ea0z := hSz.2.2.2.1; have ea1z := hSz.2.2.2.2.1; have ea2z := hSz.2.2.2.2.2.1; have eb0z := hSz.2.2.2.2.2.2.1; have eb1z := hSz.2.2.2.2.2.2.2.1; have eb2z := hSz.2.2.2.2.2.2.2.2; go_simp; try with_reducible rfl)⟩) hS0 ?_
          go_simp
          refine wpAnyH_ready (rs := [1]) (by kernel_rfl) (by simp) ?_
          refine AllReadyH.cons rfl (fun K hK => ?_) AllReadyH.nil
          go_simp
          go_wp2_with (go_at_call 30; refine (HPW.out _).mono ?_; rintro e ww ⟨rfl, rfl⟩)
          refine hK.out _ _ (hS0) (fun hS4q1 => ?_)
          clear hK K
          refine wpAnyH_take (i := 2) (v := ?_) rfl (by kernel_rfl) (by kernel_rfl) (by kernel_rfl) (fun _ _ _ h => h) (Or.inl ⟨by kernel_rfl, by (intro wz hSz; go_simp; try with_reducible rfl)⟩) hS4q1 ?_
          go_simp
          refine wpAnyH_ready (rs := [3]) (by kernel_rfl) (by simp) ?_
          refine AllReadyH.cons rfl (fun K hK => ?_) AllReadyH.nil
          go_simp
          go_wp2_with (go_at_call 32; refine (HOF.out _).mono ?_; rintro e ww ⟨rfl, rfl⟩)
          refine hK.out _ _ (hS4q1) (fun hS4q3 => ?_)
          clear hK K
          refine wpAnyH_ready (rs := [14]) (by kernel_rfl) (by simp) ?_
          refine AllReadyH.cons rfl (fun K hK => ?_) AllReadyH.nil
          go_simp
          go_wp2_with (go_at_call 33; refine (HDF.out _).mono ?_; rintro e y5 ⟨rfl, hb5⟩; have HW5 := Lib.hid (HW4.out.trans (Aw.of hb5)))
          have hr5_0 := (hb5.block _ (lt_heap hr4_0)).trans hr4_0
          have hr5_1 := (hb5.block _ (lt_heap hr4_1)).trans hr4_1
          have hr5_2 := (hb5.block _ (lt_heap hr4_2)).trans hr4_2
          have hr5_3 := (hb5.block _ (lt_heap hr4_3)).trans hr4_3
          have HU5 := Lib.hid (HU4.out.trans (hb5.mono HU4.out.size))
          refine hK.out _ _ (⟨(hb5.block _ (lt_heap hS4q3.1)).trans hS4q3.1, (hb5.block _ (lt_heap hS4q3.2.1)).trans hS4q3.2.1, (hb5.block _ (lt_heap hS4q3.2.2.1)).trans hS4q3.2.2.1, (hb5.cell (p := ⟨lb, lo + mid * 3, none⟩) (World.block_lt_of_cell? _ _ (hS4q3.2.2.2.1))).trans hS4q3.2.2.2.1, (hb5.cell (p := ⟨lb, lo + mid * 3 + 1, none⟩) (World.block_lt_of_cell? _ _ (hS4q3.2.2.2.2.1))).trans hS4q3.2.2.2.2.1, (hb5.cell (p := ⟨lb, lo + mid * 3 + 2, none⟩) (World.block_lt_of_cell? _ _ (hS4q3.2.2.2.2.2.1))).trans hS4q3.2.2.2.2.2.1, (hb5.cell (p := ⟨lb, lo + k * 3, none⟩) (World.block_lt_of_cell? _ _ (hS4q3.2.2.2.2.2.2.1))).trans hS4q3.2.2.2.2.2.2.1, (hb5.cell (p := ⟨lb, lo + k * 3 + 1, none⟩) (World.block_lt_of_cell? _ _ (hS4q3.2.2.2.2.2.2.2.1))).trans hS4q3.2.2.2.2.2.2.2.1, (hb5.cell (p := ⟨lb, lo + k * 3 + 2, none⟩) (World.block_lt_of_cell? _ _ (hS4q3.2.2.2.2.2.2.2.2))).trans hS4q3.2.2.2.2.2.2.2.2⟩) (fun hS5c => ?_)
          clear hK K
          refine wpAnyH_ready (rs := [15]) (by kernel_rfl) (by simp) ?_
          refine AllReadyH.cons rfl (fun K hK => ?_) AllReadyH.nil
          go_simp
          go_wp2_with (go_at_call 31; refine (HLI.out _).mono ?_; rintro e ww ⟨rfl, rfl⟩)
          refine hK.out _ _ (hS5c) (fun hS5q15 => ?_)
          clear hK K
          refine wpAnyH_take (i := 16) (v := ?_) rfl (by kernel_rfl) (by kernel_rfl) (by kernel_rfl) (fun _ _ _ h => h) (Or.inl ⟨by kernel_rfl, by (intro wz hSz; go_simp; try with_reducible rfl)⟩) hS5q15 ?_
          go_simp
          refine wpAnyH_done (by kernel_rfl) ?_ _
          have c0_0 := cell_of_row _ _ 0 _ _ _ hr5_0
          have c0_1 := cell_of_row _ _ 1 _ _ _ hr5_0
          have c0_2 := cell_of_row _ _ 2 _ _ _ hr5_0
          have c0_3 := cell_of_row _ _ 3 _ _ _ hr5_0
          have c0_4 := cell_of_row _ _ 4 _ _ _ hr5_0
          have c0_5 := cell_of_row _ _ 5 _ _ _ hr5_0
          have c0_6 := cell_of_row _ _ 6 _ _ _ hr5_0
          have c0_7 := cell_of_row _ _ 7 _ _ _ hr5_0
          simp at c0_0 c0_1 c0_2 c0_3 c0_4 c0_5 c0_6 c0_7
          go_wp2_with fail
          clear c0_0 c0_1 c0_2 c0_3 c0_4 c0_5 c0_6 c0_7
          refine (HAK.out _ HU5.out).mono ?_
          rintro e y6 ⟨rfl, hb6⟩
          have hr6_0 := (hb6.block _ (lt_heap hr5_0)).trans hr5_0
          have hr6_1 := (hb6.block _ (lt_heap hr5_1)).trans hr5_1
          have hr6_2 := (hb6.block _ (lt_heap hr5_2)).trans hr5_2
          have hr6_3 := (hb6.block _ (lt_heap hr5_3)).trans hr5_3
          have HU6 := Lib.hid (HU5.out.trans (hb6.mono HU5.out.size))
          clear hr5_0 hr5_1 hr5_2 hr5_3 HU5
          have HW6 := Lib.hid (HW5.out.trans (Aw.of hb6))
          go_wp2_with fail
          refine (Wa.refAdd_any _ _ _).mono ?_
          rintro e ww ⟨rfl, rfl⟩
          go_wp2_with fail
          refine (HDV.out _).mono ?_
          rintro e ww ⟨rfl, rfl⟩
          go_wp2_with fail
          refine (HMW.out _).mono ?_
          rintro e ww ⟨rfl, rfl⟩
          go_wp2_with fail
          refine (HTA.out _).mono ?_
          rintro e ww ⟨rfl, rfl⟩
          go_wp2_with fail
          refine (HTD.out _).mono ?_
          rintro e ww ⟨rfl, rfl⟩
          go_wp2_with fail
          refine (Wa.refOf_any _ _).mono ?_
          rintro e ww ⟨rfl, rfl⟩
          go_wp2_with fail
          refine (HML.out _).mono ?_
          rintro e ww ⟨rfl, rfl⟩
          go_upto_region 19 with fail
          obtain ⟨lb2, lo2, hla, e0, e1, e2⟩ := (HL.out.on HU6.out).at3 hkl
          cases hla
          obtain ⟨l0, hl0⟩ : ∃ t, t = L (k * 3) := ⟨_, rfl⟩
          rw [← hl0] at e0
          obtain ⟨l1, hl1⟩ : ∃ t, t = L (k * 3 + 1) := ⟨_, rfl⟩
          rw [← hl1] at e1
          obtain ⟨l2, hl2⟩ : ∃ t, t = L (k * 3 + 2) := ⟨_, rfl⟩
          rw [← hl2] at e2
          obtain ⟨p0, hp0⟩ : ∃ t, t = Pl.mul l0 wm := ⟨_, rfl⟩
          obtain ⟨q0, hq0⟩ : ∃ t, t = Pl.add aR p0 := ⟨_, rfl⟩
          obtain ⟨p1, hp1⟩ : ∃ t, t = Pl.mul l1 wm := ⟨_, rfl⟩
          obtain ⟨q1, hq1⟩ : ∃ t, t = Pl.add aG p1 := ⟨_, rfl⟩
          obtain ⟨p2, hp2⟩ : ∃ t, t = Pl.mul l2 wm := ⟨_, rfl⟩
          obtain ⟨q2, hq2⟩ : ∃ t, t = Pl.add aB p2 := ⟨_, rfl⟩
          have HAC := Lib.hid (show (⟨q0, q1, q2, Pl.add aT wm⟩ : Ac) = acc f L Wn Hn lv x y (rr * 5 + (cc + 1)) by rw [← Nat.add_assoc, ← HMM.out, acc_in (by rw [← HU_.out, ← HV_.out]; exact hin), ← HA.out, ← HU_.out, ← HV_.out, ← HWM.out, ← HK.out]; unfold stp; simp only []; rw [hq0, hq1, hq2, hp0, hp1, hp2, hl0, hl1, hl2])
          have HSC := Lib.hid (show ∀ W : World, Calls Tryd.prog 39 #[.agg #[.int .i64 l0, .int .i64 l1, .int .i64 l2], .int .i64 wm] W (fun e' w' => e' = .returned (.agg #[.int .i64 p0, .int .i64 p1, .int .i64 p2]) ∧ Below W.heap.size W w') from fun W => by rw [hp0, hp1, hp2]; exact He.rhscale_any _ _ _ _ W)
          have HAD := Lib.hid (show ∀ W : World, Calls Tryd.prog 38 #[.agg #[.int .i64 aR, .int .i64 aG, .int .i64 aB], .agg #[.int .i64 p0, .int .i64 p1, .int .i64 p2]] W (fun e' w' => e' = .returned (.agg #[.int .i64 q0, .int .i64 q1, .int .i64 q2]) ∧ Below W.heap.size W w') from fun W => by rw [hq0, hq1, hq2]; exact He.rhadd_any _ _ _ _ _ _ W)
          clear hl0 hl1 hl2 hp0 hp1 hp2 hq0 hq1 hq2
          refine Ol.way_drew (S := fun y => y.heap[w.heap.size + 1]? = some (.cells #[.int .i64 (Wn : Nat), .int .i64 (Hn : Nat), .slice (some ⟨lb, lo, none⟩) n c] 24 (0, 0)) ∧ y.heap[lq]? = some (.cells #[.int .i64 aR, .int .i64 aG, .int .i64 aB] 54 (0, 0)) ∧ y.cell? ⟨lb, lo + k * 3, none⟩ = some (.int .i64 l0) ∧ y.cell? ⟨lb, lo + k * 3 + 1, none⟩ = some (.int .i64 l1) ∧ y.cell? ⟨lb, lo + k * 3 + 2, none⟩ = some (.int .i64 l2)) (stop := 9) (by kernel_rfl) (⟨hr6_1, hr6_3, e0, e1, e2⟩) (fun hS0 => ?_)
          obtain ⟨y7, hy7⟩ : ∃ y, y6.drew = y := ⟨_, rfl⟩
          have HU7 := Lib.hid (show Below w.heap.size w y7 by rw [← hy7]; exact HU6.out.drew)
          have hr7_0 : y7.heap[w.heap.size]? = some (.cells (FC f p) 29 (0, 0)) := by rw [← hy7]; exact hr6_0
          have hr7_1 : y7.heap[w.heap.size + 1]? = some (.cells #[.int .i64 (Wn : Nat), .int .i64 (Hn : Nat), .slice (some ⟨lb, lo, none⟩) n c] 24 (0, 0)) := by rw [← hy7]; exact hr6_1
          have hr7_2 : y7.heap[w.heap.size + 1 + 1]? = some (.cells #[.int .i64 0, .int .i64 0, .int .i64 0] 54 (0, 0)) := by rw [← hy7]; exact hr6_2
          have hr7_3 : y7.heap[lq]? = some (.cells #[.int .i64 aR, .int .i64 aG, .int .i64 aB] 54 (0, 0)) := by rw [← hy7]; exact hr6_3
          have HW7 := Lib.hid (show Aw (fun z => z < bl ∧ z ≠ lq) y1 y7 by rw [← hy7]; exact HW6.out.trans (Aw.of (Below.refl _ _).drew))
          rw [hy7] at hS0 ⊢
          clear hy7
          refine Ol.way_take (i := 0) (v := ?_) rfl (by kernel_rfl) (by kernel_rfl) (by kernel_rfl) (fun _ _ _ h => h) (by decide) (by kernel_rfl) (by kernel_rfl) (Or.inl ⟨by kernel_rfl, by (intro wz hSz; have c1_0 := cell_of_row _ _ 0 _ _ _ hSz.1; have c1_1 := cell_of_row _ _ 1 _ _ _ hSz.1; have c1_2 := cell_of_row _ _ 2 _ _ _ hSz.1; have c3_0 := cell_of_row _ _ 0 _ _ _ hSz.2.1; have c3_1 := cell_of_row _ _ 1 _ _ _ hSz.2.1; have c3_2 := cell_of_row _ _ 2 _ _ _ hSz.2.1; simp at c1_0 c1_1 c1_2 c3_0 c3_1 c3_2; have e0z := hSz.2.2.1; have e1z := hSz.2.2.2.1; have e2z := hSz.2.2.2.2; go_simp; try with_reducible rfl)⟩) hS0 ?_
          go_simp
          refine Ol.way_plain (i := 1) (v := ?_) rfl (by kernel_rfl) (by kernel_rfl) (by kernel_rfl) (fun _ _ _ h => h) (by decide) (Or.inl ⟨by kernel_rfl, by (intro wz _; go_simp; try with_reducible rfl)⟩) (Ol.on hS0) ?_
          go_simp
          refine Ol.way_take (i := 2) (v := ?_) rfl (by kernel_rfl) (by kernel_rfl) (by kernel_rfl) (fun _ _ _ h => h) (by decide) (by kernel_rfl) (by kernel_rfl) (Or.inl ⟨by kernel_rfl, by (intro wz hSz; have c1_0 := cell_of_row _ _ 0 _ _ _ hSz.1; have c1_1 := cell_of_row _ _ 1 _ _ _ hSz.1; have c1_2 := cell_of_row _ _ 2 _ _ _ hSz.1; have c3_0 := cell_of_row _ _ 0 _ _ _ hSz.2.1; have c3_1 := cell_of_row _ _ 1 _ _ _ hSz.2.1; have c3_2 := cell_of_row _ _ 2 _ _ _ hSz.2.1; simp at c1_0 c1_1 c1_2 c3_0 c3_1 c3_2; have e0z := hSz.2.2.1; have e1z := hSz.2.2.2.1; have e2z := hSz.2.2.2.2; go_simp; try with_reducible rfl)⟩) hS0 ?_
          go_simp
          refine Ol.way_plain (i := 3) (v := ?_) rfl (by kernel_rfl) (by kernel_rfl) (by kernel_rfl) (fun _ _ _ h => h) (by decide) (Or.inl ⟨by kernel_rfl, by (intro wz _; go_simp; try with_reducible rfl)⟩) (Ol.on hS0) ?_
          go_simp
          refine Ol.way_plain (i := 4) (v := ?_) rfl (by kernel_rfl) (by kernel_rfl) (by kernel_rfl) (fun _ _ _ h => h) (by decide) (Or.inl ⟨by kernel_rfl, by (intro wz _; go_simp; try with_reducible rfl)⟩) (Ol.on hS0) ?_
          go_simp
          refine Ol.way_take (i := 5) (v := ?_) rfl (by kernel_rfl) (by kernel_rfl) (by kernel_rfl) (fun _ _ _ h => h) (by decide) (by kernel_rfl) (by kernel_rfl) (Or.inl ⟨by kernel_rfl, by (intro wz hSz; have c1_0 := cell_of_row _ _ 0 _ _ _ hSz.1; have c1_1 := cell_of_row _ _ 1 _ _ _ hSz.1; have c1_2 := cell_of_row _ _ 2 _ _ _ hSz.1; have c3_0 := cell_of_row _ _ 0 _ _ _ hSz.2.1; have c3_1 := cell_of_row _ _ 1 _ _ _ hSz.2.1; have c3_2 := cell_of_row _ _ 2 _ _ _ hSz.2.1; simp at c1_0 c1_1 c1_2 c3_0 c3_1 c3_2; have e0z := hSz.2.2.1; have e1z := hSz.2.2.2.1; have e2z := hSz.2.2.2.2; go_simp; try with_reducible rfl)⟩) hS0 ?_
          go_simp
          refine Ol.way_plain (i := 6) (v := ?_) rfl (by kernel_rfl) (by kernel_rfl) (by kernel_rfl) (fun _ _ _ h => h) (by decide) (Or.inl ⟨by kernel_rfl, by (intro wz _; go_simp; try with_reducible rfl)⟩) (Ol.on hS0) ?_
          go_simp
          refine Ol.way_ready (rs := [7]) (by kernel_rfl) (by simp) ?_
          refine Ol.Each.cons rfl (fun K hK => ?_) Ol.Each.nil
          go_simp
          go_wp2_with (go_at_call 39; refine (HSC.out _).mono ?_; rintro e y8 ⟨rfl, hb8⟩; have HW8 := Lib.hid (HW7.out.trans (Aw.of hb8)))
          have hr8_0 := (hb8.block _ (lt_heap hr7_0)).trans hr7_0
          have hr8_1 := (hb8.block _ (lt_heap hr7_1)).trans hr7_1
          have hr8_2 := (hb8.block _ (lt_heap hr7_2)).trans hr7_2
          have hr8_3 := (hb8.block _ (lt_heap hr7_3)).trans hr7_3
          have HU8 := Lib.hid (HU7.out.trans (hb8.mono HU7.out.size))
          refine Ol.keep hK _ _ (⟨(hb8.block _ (lt_heap hS0.1)).trans hS0.1, (hb8.block _ (lt_heap hS0.2.1)).trans hS0.2.1, (hb8.cell (p := ⟨lb, lo + k * 3, none⟩) (World.block_lt_of_cell? _ _ (hS0.2.2.1))).trans hS0.2.2.1, (hb8.cell (p := ⟨lb, lo + k * 3 + 1, none⟩) (World.block_lt_of_cell? _ _ (hS0.2.2.2.1))).trans hS0.2.2.2.1, (hb8.cell (p := ⟨lb, lo + k * 3 + 2, none⟩) (World.block_lt_of_cell? _ _ (hS0.2.2.2.2))).trans hS0.2.2.2.2⟩) (fun hS8c => ?_)
          clear hK K
          refine Ol.way_ready (rs := [8]) (by kernel_rfl) (by simp) ?_
          refine Ol.Each.cons rfl (fun K hK => ?_) Ol.Each.nil
          go_simp
          go_wp2_with (go_at_call 38; refine (HAD.out _).mono ?_; rintro e y9 ⟨rfl, hb9⟩; have HW9 := Lib.hid (HW8.out.trans (Aw.of hb9)))
          have hr9_0 := (hb9.block _ (lt_heap hr8_0)).trans hr8_0
          have hr9_1 := (hb9.block _ (lt_heap hr8_1)).trans hr8_1
          have hr9_2 := (hb9.block _ (lt_heap hr8_2)).trans hr8_2
          have hr9_3 := (hb9.block _ (lt_heap hr8_3)).trans hr8_3
          have HU9 := Lib.hid (HU8.out.trans (hb9.mono HU8.out.size))
          refine Ol.keep hK _ _ (⟨(hb9.block _ (lt_heap hS8c.1)).trans hS8c.1, (hb9.block _ (lt_heap hS8c.2.1)).trans hS8c.2.1, (hb9.cell (p := ⟨lb, lo + k * 3, none⟩) (World.block_lt_of_cell? _ _ (hS8c.2.2.1))).trans hS8c.2.2.1, (hb9.cell (p := ⟨lb, lo + k * 3 + 1, none⟩) (World.block_lt_of_cell? _ _ (hS8c.2.2.2.1))).trans hS8c.2.2.2.1, (hb9.cell (p := ⟨lb, lo + k * 3 + 2, none⟩) (World.block_lt_of_cell? _ _ (hS8c.2.2.2.2))).trans hS8c.2.2.2.2⟩) (fun hS9c => ?_)
          clear hK K
          refine Ol.way_ready (rs := [9]) (by kernel_rfl) (by simp) ?_
          refine Ol.Each.cons rfl (fun K hK => ?_) Ol.Each.nil
          refine step_store_row rfl 54 (.tmp 13) (.tmp 117) rfl #[.int .i64 aR, .int .i64 aG, .int .i64 aB] #[.int .i64 q0, .int .i64 q1, .int .i64 q2] _ 54 hr9_3 rfl (by first | rfl | (go_simp; done) | (go_simp; rfl)) (by kernel_rfl) rfl (by simp [Value.oneCell']) ?_
          have hN := setRow_heap _ (lq) _ #[.int .i64 q0, .int .i64 q1, .int .i64 q2] _ _ hr9_3
          have hsz := HU9.out.size
          have HUx := below_setRow (g := lq) HU9.out (by first | omega | (simp at *; omega)) #[.int .i64 q0, .int .i64 q1, .int .i64 q2]
          obtain ⟨y10, hy10⟩ : ∃ y, y9.setRow (lq) #[.int .i64 q0, .int .i64 q1, .int .i64 q2] = y := ⟨_, rfl⟩
          have hO : ∀ k, k ≠ lq → y10.heap[k]? = y9.heap[k]? := fun k hk => by rw [← hy10]; exact setRow_other _ _ _ _ hk
          have hSo : y10.os = y9.os ∧ y10.tape = y9.tape ∧ y10.output = y9.output ∧ y9.heap.size ≤ y10.heap.size := by rw [← hy10]; exact ⟨rfl, rfl, rfl, by simp [World.setRow]⟩
          rw [hy10] at hN HUx ⊢
          clear hy10
          have HU10 := Lib.hid HUx
          clear HUx
          have hr10_0 := (hO _ (by omega)).trans hr9_0
          have hr10_1 := (hO _ (by omega)).trans hr9_1
          have hr10_2 := (hO _ (by omega)).trans hr9_2
          have hr10_3 := hN
          clear hN
          refine Ol.past hK (by kernel_rfl) _ _ ?_
          clear hK K
          refine Ol.way_done (by kernel_rfl) ?_ _
          have HW10 := Lib.hid (show Aw (fun z => z < bl ∧ z ≠ lq) y1 y10 from ⟨hSo.1.trans HW9.out.os, hSo.2.1.trans HW9.out.tape, hSo.2.2.1.trans HW9.out.output, Nat.le_trans HW9.out.size hSo.2.2.2, fun k' h1 h2 => (hO k' h1.2).trans (HW9.out.block k' h1 h2)⟩)
          go_wp2_with fail
          refine (Wa.refAdd_any _ _ _).mono ?_
          rintro e ww ⟨rfl, rfl⟩
          go_wp2_with fail
          go_roundw
          case rel => exact ⟨cc + 1, c2 + 1, ⟨q0, q1, q2, Pl.add aT wm⟩, by omega, by first | rfl | go_num, rfl, Lib.hid (by have := HC2.out; omega), HAC, hr10_3, HW10⟩
          case measure => simp [intOf]; omega
        · have dcc : decide (c2 ≤ 2) = false := decide_eq_false (by have := HC2.out; omega)
          have HA2 := Lib.hid (show (⟨aR, aG, aB, aT⟩ : Ac) = acc f L Wn Hn lv x y ((rr + 1) * 5) by rw [show (rr + 1) * 5 = rr * 5 + cc by omega]; exact HA.out)
          go_wp2_with fail
          go_roundw
          case rel => exact ⟨rr + 1, r2 + 1, ⟨aR, aG, aB, aT⟩, by omega, by first | rfl | go_num, rfl, Lib.hid (by have := HR2.out; omega), HA2, hr3_3, HW⟩
          case measure => simp [intOf]; omega
    · have drr : decide (r2 ≤ 2) = false := decide_eq_false (by have := HR2.out; omega)
      have HA25 := Lib.hid (show (⟨aR, aG, aB, aT⟩ : Ac) = acc f L Wn Hn lv x y 25 by rw [show 25 = rr * 5 by omega]; exact HA.out)
      clear HA
      obtain ⟨o0, ho0⟩ : ∃ t, t = Pl.div aR aT := ⟨_, rfl⟩
      obtain ⟨o1, ho1⟩ : ∃ t, t = Pl.div aG aT := ⟨_, rfl⟩
      obtain ⟨o2, ho2⟩ : ∃ t, t = Pl.div aB aT := ⟨_, rfl⟩
      have HRES := Lib.hid (show (.agg #[.int .i64 o0, .int .i64 o1, .int .i64 o2] : Value) = .agg #[.int .i64 (sm0 f L Wn Hn lv x y), .int .i64 (sm1 f L Wn Hn lv x y), .int .i64 (sm2 f L Wn Hn lv x y)] by unfold sm0 sm1 sm2; rw [← HA25.out, ho0, ho1, ho2])
      have HD0 := Lib.hid (show ∀ W : World, Calls Tryd.prog 35 #[.int .i64 aR, .int .i64 aT] W (fun e' w' => e' = .returned (.int .i64 o0) ∧ W = w') from fun W => by rw [ho0]; exact Wa.refDiv_any _ _ W)
      have HD1 := Lib.hid (show ∀ W : World, Calls Tryd.prog 35 #[.int .i64 aG, .int .i64 aT] W (fun e' w' => e' = .returned (.int .i64 o1) ∧ W = w') from fun W => by rw [ho1]; exact Wa.refDiv_any _ _ W)
      have HD2 := Lib.hid (show ∀ W : World, Calls Tryd.prog 35 #[.int .i64 aB, .int .i64 aT] W (fun e' w' => e' = .returned (.int .i64 o2) ∧ W = w') from fun W => by rw [ho2]; exact Wa.refDiv_any _ _ W)
      clear ho0 ho1 ho2
      go_upto_region 22 with fail
      have hb3 := Ve.below_n1 y2 (.cells #[.int .i64 0, .int .i64 0, .int .i64 0] 54)
      have hN := heap_alloc_last y2 (.cells #[.int .i64 0, .int .i64 0, .int .i64 0] 54)
      obtain ⟨y3, hy3⟩ : ∃ y, y2.alloc (.cells #[.int .i64 0, .int .i64 0, .int .i64 0] 54) = y := ⟨_, rfl⟩
      have hs3 : y3.heap.size = y2.heap.size + 1 := by rw [← hy3]; simp
      rw [hy3] at hb3 hN ⊢
      clear hy3
      have hl3_0 := lt_heap hr2_0
      have hl3_1 := lt_heap hr2_1
      have hl3_2 := lt_heap hr2_2
      have hl3_3 := lt_heap hr2_3
      have hr3_0 := (hb3.block _ (lt_heap hr2_0)).trans hr2_0
      have hr3_1 := (hb3.block _ (lt_heap hr2_1)).trans hr2_1
      have hr3_2 := (hb3.block _ (lt_heap hr2_2)).trans hr2_2
      have hr3_3 := (hb3.block _ (lt_heap hr2_3)).trans hr2_3
      have HU3 := Lib.hid (HU2.out.trans (hb3.mono HU2.out.size))
      clear hr2_0 hr2_1 hr2_2 hr2_3 HU2
      have hr3_4 := hN
      clear hN
      obtain ⟨oq, hoq⟩ : ∃ q, q = y2.heap.size := ⟨_, rfl⟩
      rw [← hoq] at hr3_4 ⊢
      have hoq1 : lq < oq := by have := hl3_3; omega
      have hoql := lt_heap hr3_4
      have hlo2 := hl3_2
      have hoq2 : w.heap.size + 1 + 1 < oq := by omega
      clear hoq hs3
      have c3_0 := cell_of_row _ _ 0 _ _ _ hr3_3
      have c3_1 := cell_of_row _ _ 1 _ _ _ hr3_3
      have c3_2 := cell_of_row _ _ 2 _ _ _ hr3_3
      simp at c3_0 c3_1 c3_2
      go_wp2_with fail
      refine wp_loop_rounds 4 ?_
      rw [rounds_succ]
      have c3_0 := cell_of_row _ _ 0 _ _ _ hr3_3
      have c3_1 := cell_of_row _ _ 1 _ _ _ hr3_3
      have c3_2 := cell_of_row _ _ 2 _ _ _ hr3_3
      have c4_0 := cell_of_row _ _ 0 _ _ _ hr3_4
      have c4_1 := cell_of_row _ _ 1 _ _ _ hr3_4
      have c4_2 := cell_of_row _ _ 2 _ _ _ hr3_4
      simp at c3_0 c3_1 c3_2 c4_0 c4_1 c4_2
      have fz : ∀ j, y3.frozen? ⟨oq, j, none⟩ = false := fun j => by simp [World.frozen?, hr3_4]
      go_wp2_with fail
      refine (HD0.out _).mono ?_
      rintro e ww ⟨rfl, rfl⟩
      go_wp2_with fail
      clear fz
      clear c3_0 c3_1 c3_2 c4_0 c4_1 c4_2
      have hN : (y3.setCell ⟨oq, 0, none⟩ (.int .i64 o0)).heap[oq]? = some (.cells #[.int .i64 o0, .int .i64 0, .int .i64 0] 54 (0, 0)) := heap_setCell_same _ _ 0 _ _ _ hr3_4
      have hO : ∀ kk, kk ≠ oq → (y3.setCell ⟨oq, 0, none⟩ (.int .i64 o0)).heap[kk]? = y3.heap[kk]? := fun kk hk => Below.heap_setCell _ _ _ _ hk
      have HUx : Below w.heap.size w (y3.setCell ⟨oq, 0, none⟩ (.int .i64 o0)) := HU3.out.setCell (by show w.heap.size ≤ oq; omega) _
      obtain ⟨y4, hy4⟩ : ∃ y, y3.setCell ⟨oq, 0, none⟩ (.int .i64 o0) = y := ⟨_, rfl⟩
      rw [hy4] at hN hO HUx ⊢
      clear hy4
      have HU4 := Lib.hid HUx
      have hr4_0 := (hO _ (by omega)).trans hr3_0
      have hr4_1 := (hO _ (by omega)).trans hr3_1
      have hr4_2 := (hO _ (by omega)).trans hr3_2
      have hr4_3 := (hO _ (by omega)).trans hr3_3
      have hr4_4 := hN
      clear hN hO HUx
      clear hr3_0 hr3_1 hr3_2 hr3_3 hr3_4 HU3
      rw [rounds_succ]
      have c3_0 := cell_of_row _ _ 0 _ _ _ hr4_3
      have c3_1 := cell_of_row _ _ 1 _ _ _ hr4_3
      have c3_2 := cell_of_row _ _ 2 _ _ _ hr4_3
      have c4_0 := cell_of_row _ _ 0 _ _ _ hr4_4
      have c4_1 := cell_of_row _ _ 1 _ _ _ hr4_4
      have c4_2 := cell_of_row _ _ 2 _ _ _ hr4_4
      simp at c3_0 c3_1 c3_2 c4_0 c4_1 c4_2
      have fz : ∀ j, y4.frozen? ⟨oq, j, none⟩ = false := fun j => by simp [World.frozen?, hr4_4]
      go_wp2_with fail
      refine (HD1.out _).mono ?_
      rintro e ww ⟨rfl, rfl⟩
      go_wp2_with fail
      clear fz
      clear c3_0 c3_1 c3_2 c4_0 c4_1 c4_2
      have hN : (y4.setCell ⟨oq, 1, none⟩ (.int .i64 o1)).heap[oq]? = some (.cells #[.int .i64 o0, .int .i64 o1, .int .i64 0] 54 (0, 0)) := heap_setCell_same _ _ 1 _ _ _ hr4_4
      have hO : ∀ kk, kk ≠ oq → (y4.setCell ⟨oq, 1, none⟩ (.int .i64 o1)).heap[kk]? = y4.heap[kk]? := fun kk hk => Below.heap_setCell _ _ _ _ hk
      have HUx : Below w.heap.size w (y4.setCell ⟨oq, 1, none⟩ (.int .i64 o1)) := HU4.out.setCell (by show w.heap.size ≤ oq; omega) _
      obtain ⟨y5, hy5⟩ : ∃ y, y4.setCell ⟨oq, 1, none⟩ (.int .i64 o1) = y := ⟨_, rfl⟩
      rw [hy5] at hN hO HUx ⊢
      clear hy5
      have HU5 := Lib.hid HUx
      have hr5_0 := (hO _ (by omega)).trans hr4_0
      have hr5_1 := (hO _ (by omega)).trans hr4_1
      have hr5_2 := (hO _ (by omega)).trans hr4_2
      have hr5_3 := (hO _ (by omega)).trans hr4_3
      have hr5_4 := hN
      clear hN hO HUx
      clear hr4_0 hr4_1 hr4_2 hr4_3 hr4_4 HU4
      rw [rounds_succ]
      have c3_0 := cell_of_row _ _ 0 _ _ _ hr5_3
      have c3_1 := cell_of_row _ _ 1 _ _ _ hr5_3
      have c3_2 := cell_of_row _ _ 2 _ _ _ hr5_3
      have c4_0 := cell_of_row _ _ 0 _ _ _ hr5_4
      have c4_1 := cell_of_row _ _ 1 _ _ _ hr5_4
      have c4_2 := cell_of_row _ _ 2 _ _ _ hr5_4
      simp at c3_0 c3_1 c3_2 c4_0 c4_1 c4_2
      have fz : ∀ j, y5.frozen? ⟨oq, j, none⟩ = false := fun j => by simp [World.frozen?, hr5_4]
      go_wp2_with fail
      refine (HD2.out _).mono ?_
      rintro e ww ⟨rfl, rfl⟩
      go_wp2_with fail
      clear fz
      clear c3_0 c3_1 c3_2 c4_0 c4_1 c4_2
      have hN : (y5.setCell ⟨oq, 2, none⟩ (.int .i64 o2)).heap[oq]? = some (.cells #[.int .i64 o0, .int .i64 o1, .int .i64 o2] 54 (0, 0)) := heap_setCell_same _ _ 2 _ _ _ hr5_4
      have hO : ∀ kk, kk ≠ oq → (y5.setCell ⟨oq, 2, none⟩ (.int .i64 o2)).heap[kk]? = y5.heap[kk]? := fun kk hk => Below.heap_setCell _ _ _ _ hk
      have HUx : Below w.heap.size w (y5.setCell ⟨oq, 2, none⟩ (.int .i64 o2)) := HU5.out.setCell (by show w.heap.size ≤ oq; omega) _
      obtain ⟨y6, hy6⟩ : ∃ y, y5.setCell ⟨oq, 2, none⟩ (.int .i64 o2) = y := ⟨_, rfl⟩
      rw [hy6] at hN hO HUx ⊢
      clear hy6
      have HU6 := Lib.hid HUx
      have hr6_0 := (hO _ (by omega)).trans hr5_0
      have hr6_1 := (hO _ (by omega)).trans hr5_1
      have hr6_2 := (hO _ (by omega)).trans hr5_2
      have hr6_3 := (hO _ (by omega)).trans hr5_3
      have hr6_4 := hN
      clear hN hO HUx
      clear hr5_0 hr5_1 hr5_2 hr5_3 hr5_4 HU5
      rw [rounds_succ]
      have c4_0 := cell_of_row _ _ 0 _ _ _ hr6_4
      have c4_1 := cell_of_row _ _ 1 _ _ _ hr6_4
      have c4_2 := cell_of_row _ _ 2 _ _ _ hr6_4
      simp at c4_0 c4_1 c4_2
      go_upto_region 26 with fail
      have hHr := Lib.hid hr6_2
      have hHi := Lib.hid (show (Tryd.prog.info? 54).map (·.size) = some (#[.int .i64 o0, .int .i64 o1, .int .i64 o2] : Array Value).size by kernel_rfl)
      have hHz := Lib.hid (show (#[.int .i64 0, .int .i64 0, .int .i64 0] : Array Value).size = (#[.int .i64 o0, .int .i64 o1, .int .i64 o2] : Array Value).size from rfl)
      have hHo := Lib.hid (show (#[.int .i64 o0, .int .i64 o1, .int .i64 o2] : Array Value).all (·.oneCell') = true by simp [Value.oneCell'])
      go_wp2_with (first | (refine Au.wpList_store_row rfl 54 (.tmp 10) (.tmp 132) rfl y6 #[.int .i64 0, .int .i64 0, .int .i64 0] #[.int .i64 o0, .int .i64 o1, .int .i64 o2] (w.heap.size + 1 + 1) 54 hHr.out rfl rfl hHi.out hHz.out hHo.out ?_))
      clear c4_0 c4_1 c4_2
      clear hHr hHi hHz hHo
      have hN := setRow_heap _ (w.heap.size + 1 + 1) _ #[.int .i64 o0, .int .i64 o1, .int .i64 o2] _ _ hr6_2
      have hsz := HU6.out.size
      have HUx := below_setRow (g := w.heap.size + 1 + 1) HU6.out (by first | omega | (simp at *; omega)) #[.int .i64 o0, .int .i64 o1, .int .i64 o2]
      have hO : ∀ kk, kk ≠ w.heap.size + 1 + 1 → (y6.setRow (w.heap.size + 1 + 1) #[.int .i64 o0, .int .i64 o1, .int .i64 o2]).heap[kk]? = y6.heap[kk]? := fun kk hk => setRow_other _ _ _ _ hk
      obtain ⟨y7, hy7⟩ : ∃ y, y6.setRow (w.heap.size + 1 + 1) #[.int .i64 o0, .int .i64 o1, .int .i64 o2] = y := ⟨_, rfl⟩
      rw [hy7] at hN HUx hO ⊢
      clear hy7 hsz
      have HU7 := Lib.hid HUx
      clear HUx
      have hr7_0 := (hO _ (by omega)).trans hr6_0
      have hr7_1 := (hO _ (by omega)).trans hr6_1
      have hr7_2 := hN
      have hr7_3 := (hO _ (by omega)).trans hr6_3
      have hr7_4 := (hO _ (by omega)).trans hr6_4
      clear hN hO
      clear hr6_0 hr6_1 hr6_2 hr6_3 hr6_4 HU6
      have c2_0 := cell_of_row _ _ 0 _ _ _ hr7_2
      have c2_1 := cell_of_row _ _ 1 _ _ _ hr7_2
      have c2_2 := cell_of_row _ _ 2 _ _ _ hr7_2
      simp at c2_0 c2_1 c2_2
      go_wp2
      exact bodyPost_ret (v := .agg #[.int .i64 o0, .int .i64 o1, .int .i64 o2]) (by simp [results, Tryd.results24, go_sem, c2_0, c2_1, c2_2]) rfl ⟨by rw [HRES.out], HU7.out⟩

end Go.Proofs.YtgpbnpnnbipfpaaDoor.Fm
