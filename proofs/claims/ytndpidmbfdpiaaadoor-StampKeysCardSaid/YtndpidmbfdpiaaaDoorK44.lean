/- Layer 22: the document's sum of all bytes is the program's. -/
import Derived.Test.YtndpidmbfdpiaaaDoorK43
import Derived.BigQuiet
import Derived.BigRegion
namespace Go.Proofs.YtndpidmbfdpiaaaDoor.Se
open Go Go.RowKit Go.Proofs.YtndpidmbfdpiaaaDoor Go.Proofs.YtndpidmbfdpiaaaDoor.Au Go.Proofs.YtndpidmbfdpiaaaDoor.Re
set_option linter.unusedVariables false
set_option linter.unusedSimpArgs false

theorem wpList_append_bsc {w : World} {ops : Array Oper} {rest : List Oper} {o : Oper} {a : Act} {Q : Exit → Act → World → Prop} (hgd : o.guard = none) (s x : Operand)
    (ho : o.op = .call { callee := .builtin .append, args := #[s, x], argTypes := #[22, 22] }) (base : Nat) (v : Value) (n m : Nat) (xs l : List UInt8) (hm : m = n + l.length) (hs : a.eval s = v) (hown : w.ownsRow base 5 1 v n (vals xs))
    (u : Value) (hx : a.eval x = u) (hb : BsC w u l) (h63 : m ≤ 140737488355328) (hbase : base ≤ w.heap.size)
    (h : ∀ a' c' w', w'.ownsRow base 5 1 (.slice a' m c') m (vals (xs ++ l)) → Below base w w' → wpList Tryd.prog ops Q rest (a.put o.dst (.slice a' m c')) w') : wpList Tryd.prog ops Q (o :: rest) a w := by
  subst hm
  obtain ⟨i0, hi, hz0, hz1, hz2⟩ := info_parts infoByte
  rcases hb with ⟨rfl, rfl⟩ | ⟨ad, cap, rfl, hc, hcell⟩
  · refine wpList_append_own_none hgd s x 22 ho base 5 i0 1 Tryd.underlying22 hi v n (vals xs) hs hown hx ?_
    obtain ⟨a', c', rfl⟩ := own_form hown
    exact h a' c' w (by simpa using hown) (Below.refl _ _)
  · refine wpList_append_own _ hgd s x 22 ho base 5 i0 (.int .u8 0) 1 1 Tryd.underlying22 hi hz0 hz1 hz2 rfl (by decide) v n (vals xs) hs hown ad l.length cap (vals l) hx (by rw [vals_length, Nat.mul_one]) hcell (vals_one _) (by unfold maxLen; omega) (by omega) hbase ?_
    intro v' w' h2 h3 _
    obtain ⟨a', c', rfl⟩ := own_form h2
    rw [← vals_append] at h2
    exact h a' c' w' h2 ((Below.refl _ _).grown h3 hbase (fun q hq => (hown.lt q hq).1))

theorem bsc_form {w : World} {v : Value} {l : List UInt8} (h : BsC w v l) : ∃ a c, v = .slice a l.length c := by
  rcases h with ⟨rfl, rfl⟩ | ⟨ad, cap, rfl, -⟩
  · exact ⟨none, 0, rfl⟩
  · exact ⟨_, _, rfl⟩

theorem own_bytes {w : World} {base : Nat} {a : Option Addr} {n c : Nat} {l : List UInt8} (h : w.ownsRow base 5 1 (.slice a n c) n (vals l)) (h0 : 0 < n) (hl : l.length = n) : ∃ q, a = some ⟨q, 0, none⟩ ∧ base ≤ q ∧ q < w.heap.size ∧ ∀ j, j < n → w.cell? ⟨q, j, none⟩ = some (.int .u8 (byteAt l j)) := by
  rcases h.2 with ⟨h1, h2⟩ | ⟨q, cap, cur, h1, h2, h3, h4, h5, h6, h7⟩
  · omega
  · cases h1
    refine ⟨q, rfl, h2, lt_heap h3, fun j hj => ?_⟩
    rw [Nat.mul_one] at h7
    have e := congrArg (fun l => l[j]?) h7
    simp only [List.getElem?_take, if_pos hj] at e
    have hv : (vals l)[j]? = some (.int .u8 (byteAt l j)) := by
      unfold vals byteAt
      rw [List.getElem?_map, List.getElem?_eq_getElem (by omega)]
      simp [List.getD, show j < l.length by omega]
    rw [hv] at e
    simp [World.cell?, h3]
    simpa using e

theorem tbl_lo (j : Nat) (h : j < 8) : tbl.getD j 0 = start.l.getD j 0 := by
  unfold tbl
  simp only [List.getD_eq_getElem?_getD]
  rw [List.getElem?_append_left (by exact h)]

theorem tbl_hi (j : Nat) (h : j < 64) : tbl.getD (8 + j) 0 = kt.getD j 0 := by
  unfold tbl
  simp only [List.getD_eq_getElem?_getD]
  rw [List.getElem?_append_right (by show 8 ≤ 8 + j; omega), show 8 + j - start.l.length = j by show 8 + j - 8 = j; omega]

theorem nx_is2 (a b s0 s1 : Int) : wr (wr (wr (s1 + b) + s0) + a) = wr (wr (wr (a + s0) + b) + s1) := by unfold wr; omega

theorem below_drewQ {B : Nat} {a w : World} (h : Below B a w) (n : Nat) : Below B a (w.drewN n) := ⟨h.os, h.tape, h.output, h.size, h.block⟩

theorem rturn_k (k : Nat) (h0 : 0 < k) (h1 : k < 32) (n : Int) (w : World) (m : Nat) : Calls Tryd.prog 38 #[.int .u32 n, .int .u64 k] (w.drewN m) fun e w' => e = .returned (.int .u32 (rotr n k)) ∧ w' = w.drewN m :=
  (rturn_any n k h0 h1 _).mono fun e w' h => ⟨h.1, h.2.symm⟩

theorem rt_7 (n : Int) (w : World) (m : Nat) : Calls Tryd.prog 38 #[.int .u32 n, .int .u64 7] (w.drewN m) fun e w'' => e = .returned (.int .u32 (rotr n 7)) ∧ ∃ j, w'' = w.drewN j :=
  Calls.quiet_of_same (rturn_k 7 (by decide) (by decide) n w m)

theorem rt_18 (n : Int) (w : World) (m : Nat) : Calls Tryd.prog 38 #[.int .u32 n, .int .u64 18] (w.drewN m) fun e w'' => e = .returned (.int .u32 (rotr n 18)) ∧ ∃ j, w'' = w.drewN j :=
  Calls.quiet_of_same (rturn_k 18 (by decide) (by decide) n w m)

theorem rt_17 (n : Int) (w : World) (m : Nat) : Calls Tryd.prog 38 #[.int .u32 n, .int .u64 17] (w.drewN m) fun e w'' => e = .returned (.int .u32 (rotr n 17)) ∧ ∃ j, w'' = w.drewN j :=
  Calls.quiet_of_same (rturn_k 17 (by decide) (by decide) n w m)

theorem rt_19 (n : Int) (w : World) (m : Nat) : Calls Tryd.prog 38 #[.int .u32 n, .int .u64 19] (w.drewN m) fun e w'' => e = .returned (.int .u32 (rotr n 19)) ∧ ∃ j, w'' = w.drewN j :=
  Calls.quiet_of_same (rturn_k 19 (by decide) (by decide) n w m)

theorem rt_6 (n : Int) (w : World) (m : Nat) : Calls Tryd.prog 38 #[.int .u32 n, .int .u64 6] (w.drewN m) fun e w'' => e = .returned (.int .u32 (rotr n 6)) ∧ ∃ j, w'' = w.drewN j :=
  Calls.quiet_of_same (rturn_k 6 (by decide) (by decide) n w m)

theorem rt_11 (n : Int) (w : World) (m : Nat) : Calls Tryd.prog 38 #[.int .u32 n, .int .u64 11] (w.drewN m) fun e w'' => e = .returned (.int .u32 (rotr n 11)) ∧ ∃ j, w'' = w.drewN j :=
  Calls.quiet_of_same (rturn_k 11 (by decide) (by decide) n w m)

theorem rt_25 (n : Int) (w : World) (m : Nat) : Calls Tryd.prog 38 #[.int .u32 n, .int .u64 25] (w.drewN m) fun e w'' => e = .returned (.int .u32 (rotr n 25)) ∧ ∃ j, w'' = w.drewN j :=
  Calls.quiet_of_same (rturn_k 25 (by decide) (by decide) n w m)

theorem rt_2 (n : Int) (w : World) (m : Nat) : Calls Tryd.prog 38 #[.int .u32 n, .int .u64 2] (w.drewN m) fun e w'' => e = .returned (.int .u32 (rotr n 2)) ∧ ∃ j, w'' = w.drewN j :=
  Calls.quiet_of_same (rturn_k 2 (by decide) (by decide) n w m)

theorem rt_13 (n : Int) (w : World) (m : Nat) : Calls Tryd.prog 38 #[.int .u32 n, .int .u64 13] (w.drewN m) fun e w'' => e = .returned (.int .u32 (rotr n 13)) ∧ ∃ j, w'' = w.drewN j :=
  Calls.quiet_of_same (rturn_k 13 (by decide) (by decide) n w m)

theorem rt_22 (n : Int) (w : World) (m : Nat) : Calls Tryd.prog 38 #[.int .u32 n, .int .u64 22] (w.drewN m) fun e w'' => e = .returned (.int .u32 (rotr n 22)) ∧ ∃ j, w'' = w.drewN j :=
  Calls.quiet_of_same (rturn_k 22 (by decide) (by decide) n w m)

set_option maxHeartbeats 16000000 in
set_option maxRecDepth 100000 in
theorem rof_any (v : Value) (l : List UInt8) (w : World) (hv : BsC w v l) (hl : l.length ≤ 5000) : Calls Tryd.prog 24 #[.agg (nums .u32 tbl).toArray, v] w fun e' w' => e' = .returned (.agg (nums .u8 (sha l)).toArray) ∧ Below w.heap.size w w' := by
  obtain ⟨R, hRe⟩ : ∃ R, R = (nums .u32 tbl).toArray := ⟨_, rfl⟩
  rw [← hRe]
  obtain ⟨av, cv, hve⟩ := bsc_form hv
  obtain ⟨n, hn⟩ : ∃ n, n = l.length := ⟨_, rfl⟩
  rw [← hn] at hve hl
  subst hve
  have HN := Lib.hid hn
  have HRE := Lib.hid hRe
  have HV := Lib.hid hv
  clear hv hRe hn
  go_enter Tryd.func24, Tryd.ntmps24
  go_upto_region 1 with fail
  have hR := Au.rows2 w (.cells R 31) (.cells Y32 26)
  have HUx := Ve.below_n2 w (.cells R 31) (.cells Y32 26)
  obtain ⟨y0, hy0⟩ : ∃ y0, (w.alloc (.cells R 31)).alloc (.cells Y32 26) = y0 := ⟨_, rfl⟩
  rw [hy0] at hR HUx ⊢
  clear hy0
  obtain ⟨ht0, hr0⟩ := hR
  obtain ⟨t, hte⟩ : ∃ t, t = w.heap.size := ⟨_, rfl⟩
  obtain ⟨r, hre⟩ : ∃ r, r = w.heap.size + 1 := ⟨_, rfl⟩
  rw [← hre] at hr0 ⊢
  rw [← hte] at ht0 ⊢
  have htr : t < r := by omega
  have hwr : w.heap.size ≤ r := by omega
  have hlr : r < y0.heap.size := lt_heap hr0
  clear hre hte
  rw [HRE.out] at ht0
  have HT0 := Lib.hid ht0
  have HR0 := Lib.hid hr0
  have HU0 := Lib.hid HUx
  have HV0 := Lib.hid (HV.out.on HU0.out)
  clear ht0 hr0 HUx HRE HV
  have HE0 := Lib.hid (show (y0.alloc (.cells #[] 5)).ownsRow y0.heap.size 5 1 (.slice (some ⟨y0.heap.size, 0, none⟩) 0 0) 0 (vals []) from World.ownsRow_lit (base := y0.heap.size) (size := 1) y0 #[] 0 (e := 5) (Nat.le_refl _) (by unfold maxLen; omega) rfl)
  have HVB := Lib.hid (HV0.out.on (Ve.below_n1 y0 (.cells #[] 5)))
  have hb1 := Ve.below_n1 y0 (.cells #[] 5)
  go_upto_region 2 with (first | (at_builtin; refine wpList_append_bsc rfl _ _ rfl y0.heap.size _ 0 n [] l (by rw [HN.out, Nat.zero_add]) rfl HE0.out _ rfl HVB.out ?d1 ?d2 ?_))
  case d1 => omega
  case d2 => simp
  intro a2 c2 y2 hown2 hb2
  have HU2 := Lib.hid (hb1.trans (hb2.mono (Nat.le_refl _)))
  have hz2 := HU2.out.size
  have HO2 := Lib.hid (show (y2.alloc (.cells #[.int .u8 128] 5)).ownsRow y0.heap.size 5 1 (.slice a2 n c2) n (vals l) from hown2.alloc _)
  have HVB2 := Lib.hid (show BsC (y2.alloc (.cells #[.int .u8 128] 5)) (.slice (some ⟨y2.heap.size, 0, none⟩) 1 1) [128] from bsc_row (l := [128]) rfl (heap_alloc_last y2 (.cells #[.int .u8 128] 5)))
  have hb3 := Ve.below_n1 y2 (.cells #[.int .u8 128] 5)
  clear hb1 hb2 hown2 HE0 HVB
  go_upto_region 2 with (first | (at_builtin; refine wpList_append_bsc rfl _ _ rfl y0.heap.size _ n (n + 1) l [128] rfl rfl HO2.out _ rfl HVB2.out ?d1 ?d2 ?_))
  case d1 => show n + 1 ≤ _; omega
  case d2 => simp; omega
  intro a4 c4 y4 hown4 hb4
  have HU4 := Lib.hid (HU2.out.trans ((hb3.mono hz2).trans hb4))
  have HO4 := Lib.hid hown4
  obtain ⟨n1, hn1⟩ : ∃ x, x = n + 1 := ⟨_, rfl⟩
  rw [← hn1] at HO4 ⊢
  have HN1 := Lib.hid hn1
  clear hb3 hb4 hown4 HO2 HVB2 HU2 hz2 hn1
  go_wp2_with fail
  go_loopw [5] (fun v wr => ∃ (j m : Nat) (a : Option Addr) (c : Nat), j ≤ zeros n ∧ m = n1 + j ∧ v = .slice a m c ∧ Hid (wr.ownsRow y0.heap.size 5 1 (.slice a m c) m (vals (l ++ (128 :: List.replicate j 0)))) ∧ Hid (Below y0.heap.size y0 wr)) (fun v _ => 6000 - lenV v)
  case atStart => exact ⟨0, n1, a4, c4, by omega, by omega, rfl, HO4, HU4⟩
  case round =>
    obtain ⟨j, m, a, c, hj, hm, rfl, HI, HB⟩ := hrel
    have hsz := HB.out.size
    have hz64 : zeros n < 64 := Nat.mod_lt _ (by decide)
    have hn1' := HN1.out
    have hmb : m ≤ 5100 := by omega
    have HMJ := Lib.hid hm
    have HNN := Lib.hid hn1'
    clear hm hn1'
    by_cases hlt : j < zeros n
    · have hne : (((m : Int) % 64) != 56) = true := by
        have h1 : ((m : Int) % 64) ≠ 56 := by have := HMJ.out; have := HNN.out; unfold zeros at hlt; omega
        simp [h1]
      have HI1 := Lib.hid (HI.out.alloc (.cells #[.int .u8 0] 5))
      have HV1 := Lib.hid (show BsC (wr.alloc (.cells #[.int .u8 0] 5)) (.slice (some ⟨wr.heap.size, 0, none⟩) 1 1) [0] from bsc_row (l := [0]) rfl (heap_alloc_last wr (.cells #[.int .u8 0] 5)))
      have hb3 := Ve.below_n1 wr (.cells #[.int .u8 0] 5)
      go_wp2_with (first | (at_builtin; refine wpList_append_bsc rfl _ _ rfl y0.heap.size _ m (m + 1) (l ++ (128 :: List.replicate j 0)) [0] rfl rfl HI1.out _ rfl HV1.out ?d1 ?d2 ?_))
      case d1 => show m + 1 ≤ _; omega
      case d2 => simp; omega
      intro a9 c9 y9 hown9 hb9
      have HB9 := Lib.hid (HB.out.trans ((hb3.mono hsz).trans hb9))
      have HO9 := Lib.hid (show y9.ownsRow y0.heap.size 5 1 (.slice a9 (m + 1) c9) (m + 1) (vals (l ++ (128 :: List.replicate (j + 1) 0))) by
        rw [List.replicate_succ']; exact hown9)
      clear hown9 hb9 hb3 HI HI1 HV1 HB hne
      go_wp2_with fail
      go_roundw
      case rel => exact ⟨j + 1, m + 1, a9, c9, by omega, by have := HMJ.out; omega, rfl, HO9, HB9⟩
      case measure => show 6000 - (m + 1) < 6000 - m; omega
    · have hne : (((m : Int) % 64) != 56) = false := by
        have h1 : ((m : Int) % 64) = 56 := by have := HMJ.out; have := HNN.out; unfold zeros at hlt hj; omega
        simp [h1]
      obtain ⟨bt, hbt⟩ : ∃ b : Nat, b = 8 * n := ⟨_, rfl⟩
      have hbi : (n : Int) * 8 = (bt : Int) := by omega
      have hbb : bt < 100000 := by omega
      have q1 : IntKind.u64.wrap (n : Int) = (n : Int) := wrap64 _ (by omega) (by omega)
      have q2 : IntKind.u64.wrap (bt : Int) = (bt : Int) := wrap64 _ (by omega) (by omega)
      have q3 : (n : Int) % 18446744073709551616 = (n : Int) := by omega
      have q4 : (bt : Int) % 18446744073709551616 = (bt : Int) := by omega
      have HBT := Lib.hid hbt
      have HM := Lib.hid (show m = n + 1 + zeros n by have := HMJ.out; have := HNN.out; omega)
      have HI0 := Lib.hid (show wr.ownsRow y0.heap.size 5 1 (.slice a m c) m (vals ((l ++ (128 :: List.replicate (zeros n) 0)) ++ be8 bt 0)) by
        have e := HI.out
        rw [show j = zeros n by omega] at e
        simpa [be8] using e)
      clear hbt hlt hj HI
      go_wp2_with fail
      go_loopw [5, 7] (fun v iv wr => ∃ (k u : Nat) (x : Int) (a : Option Addr) (c : Nat) (A : List UInt8), k ≤ 8 ∧ x = 7 - (k : Int) ∧ iv = .int .i64 x ∧ u = m + k ∧ v = .slice a u c ∧ Hid (A = (l ++ (128 :: List.replicate (zeros n) 0)) ++ be8 bt k) ∧ Hid (wr.ownsRow y0.heap.size 5 1 (.slice a u c) u (vals A)) ∧ Hid (Below y0.heap.size y0 wr)) (fun _ iv _ => (intOf iv + 1).toNat)
      case atStart => exact ⟨0, m, 7, a, c, _, by omega, by omega, rfl, by omega, rfl, Lib.hid rfl, HI0, HB⟩
      case round =>
        obtain ⟨k, u, x, a, c, A, hk, hx, rfl, hu, rfl, HA, HI, HB⟩ := hrel
        have hsz := HB.out.size
        have hub : u ≤ 5200 := by omega
        have HU_ := Lib.hid hu
        clear hu
        by_cases hlt : k < 8
        · obtain ⟨d, hd⟩ : ∃ d : Nat, d = 7 - k := ⟨_, rfl⟩
          obtain ⟨s8, hs8⟩ : ∃ d : Nat, d = 8 * (7 - k) := ⟨_, rfl⟩
          have hxd : x = (d : Int) := by omega
          subst hxd
          have hd0 : (0 : Int) ≤ (d : Int) := by omega
          have hd8 : d < 8 := by omega
          have hs64 : s8 ≤ 56 := by omega
          have hsd : 8 * (d : Int) = (s8 : Int) := by omega
          have q5 : IntKind.u64.wrap (d : Int) = (d : Int) := wrap64 _ (by omega) (by omega)
          have q6 : IntKind.u64.wrap (s8 : Int) = (s8 : Int) := wrap64 _ (by omega) (by omega)
          have q7 : (d : Int) % 18446744073709551616 = (d : Int) := by omega
          have q8 : (s8 : Int) % 18446744073709551616 = (s8 : Int) := by omega
          obtain ⟨by_, hby⟩ : ∃ x : UInt8, x = UInt8.ofNat (bt / 2 ^ s8 % 256) := ⟨_, rfl⟩
          obtain ⟨yb, hyb⟩ : ∃ x : Int, x = (bt : Int) / 2 ^ s8 % 256 := ⟨_, rfl⟩
          have hyv : yb = (by_.toNat : Int) := by
            rw [hyb, hby, UInt8.toNat_ofNat_of_lt' (by simp [UInt8.size]; omega)]
            simp
          have hyr := hyb.symm
          have HBE := Lib.hid (show be8 bt (k + 1) = be8 bt k ++ [by_] by rw [be8_succ, hby, hs8])
          have HX2 := Lib.hid (show (d : Int) - 1 = 7 - ((k + 1 : Nat) : Int) by omega)
          have HI1 := Lib.hid (HI.out.alloc (.cells #[.int .u8 yb] 5))
          have HV1 := Lib.hid (show BsC (wr.alloc (.cells #[.int .u8 yb] 5)) (.slice (some ⟨wr.heap.size, 0, none⟩) 1 1) [by_] from bsc_row (l := [by_]) rfl (by rw [hyv]; exact heap_alloc_last wr (.cells #[.int .u8 (by_.toNat : Int)] 5)))
          have hb3 := Ve.below_n1 wr (.cells #[.int .u8 yb] 5)
          clear hby hyv hyb hd hs8 hx
          go_wp2_with (first | (at_builtin; refine wpList_append_bsc rfl _ _ rfl y0.heap.size _ u (u + 1) A [by_] rfl rfl HI1.out _ rfl HV1.out ?d1 ?d2 ?_))
          case d1 => show u + 1 ≤ _; omega
          case d2 => simp; omega
          intro a9 c9 y9 hown9 hb9
          have HB9 := Lib.hid (HB.out.trans ((hb3.mono hsz).trans hb9))
          have HO9 := Lib.hid (show y9.ownsRow y0.heap.size 5 1 (.slice a9 (u + 1) c9) (u + 1) (vals (A ++ [by_])) from hown9)
          have HA9 := Lib.hid (show A ++ [by_] = (l ++ (128 :: List.replicate (zeros n) 0)) ++ be8 bt (k + 1) by rw [HA.out, HBE.out, List.append_assoc])
          clear hown9 hb9 hb3 HI HI1 HV1 HB hyr
          go_wp2_with fail
          go_roundw
          case rel => exact ⟨k + 1, u + 1, (d : Int) - 1, a9, c9, A ++ [by_], by omega, HX2.out, by go_num, by have := HU_.out; omega, rfl, HA9, HO9, HB9⟩
          case measure => simp [intOf]
        · have hx0 : ¬ (0 : Int) ≤ x := by omega
          have hx1 : x < 0 := by omega
          have hxf : decide ((0 : Int) ≤ x) = false := by simp [hx1]
          obtain ⟨P, hP⟩ : ∃ P, P = l ++ pad n := ⟨_, rfl⟩
          have HP := Lib.hid hP
          obtain ⟨K, hK⟩ := pad_whole n
          have HPK := Lib.hid (show P.length = 64 * K by rw [hP, List.length_append, ← HN.out]; exact hK)
          have HUK := Lib.hid (show u = 64 * K by have e := pad_len n; have := HU_.out; have := HM.out; omega)
          have hKb : 0 < K := by have := HUK.out; have := HU_.out; have := HM.out; omega
          have HO5 := Lib.hid (show wr.ownsRow y0.heap.size 5 1 (.slice a u c) u (vals P) by
            have e := HI.out
            rw [HA.out, show k = 8 by omega, HBT.out, List.append_assoc] at e
            rw [hP]; exact e)
          have huK0 : 0 < u := by have := HUK.out; omega
          obtain ⟨qb, hqa, hqb, hql, hqc⟩ := own_bytes HO5.out huK0 (by rw [HPK.out]; exact HUK.out.symm)
          subst hqa
          have HQC := Lib.hid hqc
          clear hqc hP hK HI HO5 HI0 HBT hx hk hx0
          obtain ⟨L8, HL8⟩ : ∃ L, Hid (L = nums .u32 start.l) := ⟨_, Lib.hid rfl⟩
          have HRG := Lib.hid (show wr.rangeAt t 0 L8 by rw [HL8.out]; exact range_of (fun j hj => by
            rw [Nat.zero_add]
            have e := row_at ((HB.out.block t (by omega)).trans HT0.out) (j := j) (by rw [tbl_len]; have : start.l.length = 8 := rfl; omega)
            rw [tbl_lo j (by exact hj)] at e
            exact e))
          have HSZ8 := Lib.hid (show (Tryd.prog.info? 28).map (·.size) = some L8.length by rw [HL8.out, nums_length]; kernel_rfl)
          go_upto_region 9 with fail
          obtain ⟨R8, hR8e⟩ : ∃ R, R = L8.toArray := ⟨_, rfl⟩
          have hR8 : R8 = (nums .u32 start.l).toArray := by rw [hR8e, HL8.out]
          have hRs : R8.size = 8 := by rw [hR8]; rfl
          have HR8 := Lib.hid hR8
          have HSZ := Lib.hid (show (Tryd.prog.info? 28).map (·.size) = some R8.size by rw [hRs]; kernel_rfl)
          have HZZ := Lib.hid (show (#[.int .u32 0, .int .u32 0, .int .u32 0, .int .u32 0, .int .u32 0, .int .u32 0, .int .u32 0, .int .u32 0] : Array Value).size = R8.size by rw [hRs]; rfl)
          have HOO := Lib.hid (show R8.all (·.oneCell') = true by rw [hR8]; exact all_oneCell_toArray (nums_one _ _))
          have HAL := Lib.hid (heap_alloc_last wr (.cells #[.int .u32 0, .int .u32 0, .int .u32 0, .int .u32 0, .int .u32 0, .int .u32 0, .int .u32 0, .int .u32 0] 28))
          rw [hR8e] at HSZ HZZ HOO
          have HR8E := Lib.hid hR8e
          clear hRs hR8e hR8
          go_wp2_with (first | (with_reducible refine wpList_load_mid rfl 28 (.tmp 53) rfl t 0 rfl L8 _ HRG.out Tryd.underlying28 rfl HSZ8.out ?_) | (refine Au.wpList_store_row rfl 28 (.tmp 8) (.tmp 54) rfl (wr.alloc (.cells #[.int .u32 0, .int .u32 0, .int .u32 0, .int .u32 0, .int .u32 0, .int .u32 0, .int .u32 0, .int .u32 0] 28)) _ L8.toArray wr.heap.size 28 HAL.out rfl rfl HSZ.out HZZ.out HOO.out ?_))
          have hN := setRow_heap _ (wr.heap.size) _ L8.toArray _ _ HAL.out
          have hbn := Ve.below_n1 wr (.cells #[.int .u32 0, .int .u32 0, .int .u32 0, .int .u32 0, .int .u32 0, .int .u32 0, .int .u32 0, .int .u32 0] 28)
          have HUx := below_setRow (g := wr.heap.size) hbn (Nat.le_refl _) L8.toArray
          obtain ⟨y5, hy5⟩ : ∃ y, (wr.alloc (.cells #[.int .u32 0, .int .u32 0, .int .u32 0, .int .u32 0, .int .u32 0, .int .u32 0, .int .u32 0, .int .u32 0] 28)).setRow wr.heap.size L8.toArray = y := ⟨_, rfl⟩
          have hsw : y0.heap.size ≤ wr.heap.size := HB.out.size
          rw [hy5] at hN HUx ⊢
          have HT5 := Lib.hid ((HUx.block t (by omega)).trans ((HB.out.block t (by omega)).trans HT0.out))
          have HR5 := Lib.hid ((HUx.block r (by omega)).trans ((HB.out.block r (by omega)).trans HR0.out))
          have HQ5 := Lib.hid (show ∀ j, j < u → y5.cell? ⟨qb, j, none⟩ = some (.int .u8 (byteAt P j)) from fun j hj => (World.cell?_of_block (w := wr) (HUx.block qb hql)).trans (HQC.out j hj))
          have HU5 := Lib.hid (HU0.out.trans ((HB.out.trans (HUx.mono hsw)).mono HU0.out.size))
          obtain ⟨h8, hh8⟩ : ∃ h, h = wr.heap.size := ⟨_, rfl⟩
          rw [← hh8] at hN hql hsw ⊢
          rw [← HR8E.out, HR8.out] at hN
          have HH5 := Lib.hid (show y5.heap[h8]? = some (.cells (nums .u32 (vk P 0).l).toArray 28 (0, 0)) from hN)
          have hth : t < h8 := by omega
          have hrh : r < h8 := by omega
          have hwh : w.heap.size ≤ h8 := by have := HU0.out.size; omega
          clear hy5 hN hbn HUx hh8 HAL HSZ HZZ HOO HRG HSZ8 HQC HB hxf
          go_wp2_with fail
          go_loopw [9] (fun iv wr => ∃ k p : Nat, k ≤ K ∧ p = 64 * k ∧ iv = .int .i64 (p : Int) ∧ Hid (wr.heap[h8]? = some (.cells (nums .u32 (vk P k).l).toArray 28 (0, 0))) ∧ Hid (Below h8 y5 wr)) (fun iv _ => u - (intOf iv).toNat)
          case atStart => exact ⟨0, 0, by omega, by omega, rfl, HH5, Lib.hid (Below.refl _ _)⟩
          case round =>
            obtain ⟨k, p, hk, hp, rfl, HH, HB⟩ := hrel
            by_cases hlt : k < K
            · have hpu : (p : Int) < (u : Int) := by have := HUK.out; omega
              have hp64 : p + 64 ≤ u := by have := HUK.out; omega
              have HPE := Lib.hid hp
              clear hp
              obtain ⟨B, hBe⟩ : ∃ B, B = chunk P k := ⟨_, rfl⟩
              have HBY := Lib.hid (show ∀ j, j < 64 → y5.cell? ⟨qb, p + j, none⟩ = some (.int .u8 (byteAt B j)) from fun j hj => by
                rw [hBe, HPE.out, HQ5.out (64 * k + j) (by have := HPE.out; omega)]
                congr 2
                rw [chunk_at P k j hj (by have := HPK.out; have := HUK.out; have := HPE.out; omega)]
                rfl)
              have HBE := Lib.hid hBe
              clear hBe
              go_upto_region 14 with fail
              have hN := heap_alloc_last wr (.cells Z64 29)
              have hbn := Ve.below_n1 wr (.cells Z64 29)
              obtain ⟨y6, hy6⟩ : ∃ y, wr.alloc (.cells Z64 29) = y := ⟨_, rfl⟩
              rw [hy6] at hN hbn ⊢
              have hlh : h8 < wr.heap.size := lt_heap HH.out
              have HH6 := Lib.hid ((hbn.block h8 hlh).trans HH.out)
              have HB6 := Lib.hid (HB.out.trans (hbn.mono (by omega)))
              obtain ⟨q, hq⟩ : ∃ q, q = wr.heap.size := ⟨_, rfl⟩
              rw [← hq] at hN hlh ⊢
              rw [z64_nums, ← schedN_0 B] at hN
              have HS6 := Lib.hid hN
              have HBY6 := Lib.hid (show ∀ j, j < 64 → y6.cell? ⟨qb, p + j, none⟩ = some (.int .u8 (byteAt B j)) from fun j hj => (World.cell?_of_block (w := y5) (HB6.out.block qb hql)).trans (HBY.out j hj))
              clear hy6 hbn hN hq HB HH HBY
              go_wp2_with fail
              go_loopw [11] (fun iv wr => ∃ i : Nat, i ≤ 64 ∧ iv = .int .i64 i ∧ Hid (wr.heap[q]? = some (.cells (nums .u32 (schedN B i)).toArray 29 (0, 0))) ∧ Hid (Below q y6 wr)) (fun iv _ => 64 - (intOf iv).toNat)
              case atStart => exact ⟨0, by omega, rfl, HS6, Lib.hid (Below.refl _ _)⟩
              case round =>
                obtain ⟨i, hi, rfl, HS, HB2⟩ := hrel
                by_cases hlt2 : i < 64
                · have hlt2' : (i : Int) < 64 := by omega
                  by_cases h16 : i < 16
                  · as_aux_lemma =>
                      have h16' : (i : Int) < 16 := by omega
                      obtain ⟨f, hf⟩ : ∃ o : Nat, o = 4 * i := ⟨_, rfl⟩
                      obtain ⟨o0, ho0⟩ : ∃ o : Nat, o = p + f := ⟨_, rfl⟩
                      obtain ⟨o1, ho1⟩ : ∃ o : Nat, o = o0 + 1 := ⟨_, rfl⟩
                      obtain ⟨o2, ho2⟩ : ∃ o : Nat, o = o0 + 2 := ⟨_, rfl⟩
                      obtain ⟨o3, ho3⟩ : ∃ o : Nat, o = o0 + 3 := ⟨_, rfl⟩
                      have ef : 4 * (i : Int) = (f : Int) := by omega
                      have e0 : (p : Int) + (f : Int) = (o0 : Int) := by omega
                      have e1 : (o0 : Int) + 1 = (o1 : Int) := by omega
                      have e2 : (o0 : Int) + 2 = (o2 : Int) := by omega
                      have e3 : (o0 : Int) + 3 = (o3 : Int) := by omega
                      have l0 : (o0 : Int) < (u : Int) := by omega
                      have l1 : (o1 : Int) < (u : Int) := by omega
                      have l2 : (o2 : Int) < (u : Int) := by omega
                      have l3 : (o3 : Int) < (u : Int) := by omega
                      have vf : IntKind.i64.wrap (f : Int) = (f : Int) := by rw [IntKind.wrap_i64]; omega
                      have v0 : IntKind.i64.wrap (o0 : Int) = (o0 : Int) := by rw [IntKind.wrap_i64]; omega
                      have v1 : IntKind.i64.wrap (o1 : Int) = (o1 : Int) := by rw [IntKind.wrap_i64]; omega
                      have v2 : IntKind.i64.wrap (o2 : Int) = (o2 : Int) := by rw [IntKind.wrap_i64]; omega
                      have v3 : IntKind.i64.wrap (o3 : Int) = (o3 : Int) := by rw [IntKind.wrap_i64]; omega
                      have HCB := Lib.hid (show ∀ j, j < 64 → wr.cell? ⟨qb, p + j, none⟩ = some (.int .u8 (byteAt B j)) from fun j hj => (World.cell?_of_block (w := y6) (HB2.out.block qb (by omega))).trans (HBY6.out j hj))
                      have cb0 := HCB.out f (by omega)
                      have cb1 := HCB.out (f + 1) (by omega)
                      have cb2 := HCB.out (f + 2) (by omega)
                      have cb3 := HCB.out (f + 3) (by omega)
                      rw [show p + f = o0 by omega] at cb0
                      rw [show p + (f + 1) = o1 by omega] at cb1
                      rw [show p + (f + 2) = o2 by omega] at cb2
                      rw [show p + (f + 3) = o3 by omega] at cb3
                      have HWD0 := Lib.hid (show wordD B i = byteAt B f * 16777216 + byteAt B (f + 1) * 65536 + byteAt B (f + 2) * 256 + byteAt B (f + 3) by unfold wordD; rw [hf])
                      obtain ⟨x0, hx0⟩ : ∃ x, x = byteAt B f := ⟨_, rfl⟩
                      obtain ⟨x1, hx1⟩ : ∃ x, x = byteAt B (f + 1) := ⟨_, rfl⟩
                      obtain ⟨x2, hx2⟩ : ∃ x, x = byteAt B (f + 2) := ⟨_, rfl⟩
                      obtain ⟨x3_, hx3⟩ : ∃ x, x = byteAt B (f + 3) := ⟨_, rfl⟩
                      have k0 := byteAt_bd B f
                      have k1 := byteAt_bd B (f + 1)
                      have k2 := byteAt_bd B (f + 2)
                      have k3 := byteAt_bd B (f + 3)
                      rw [← hx0] at cb0 k0
                      rw [← hx1] at cb1 k1
                      rw [← hx2] at cb2 k2
                      rw [← hx3] at cb3 k3
                      have HWD := Lib.hid (show wordD B i = x0 * 16777216 + x1 * 65536 + x2 * 256 + x3_ by rw [HWD0.out, hx0, hx1, hx2, hx3])
                      clear hx0 hx1 hx2 hx3 hf ho0 ho1 ho2 ho3 HCB HWD0
                      obtain ⟨m0, hm0⟩ : ∃ x : Int, x = x0 * 16777216 := ⟨_, rfl⟩
                      obtain ⟨m1, hm1⟩ : ∃ x : Int, x = x1 * 65536 := ⟨_, rfl⟩
                      obtain ⟨m2, hm2⟩ : ∃ x : Int, x = x2 * 256 := ⟨_, rfl⟩
                      obtain ⟨n1_, hn1_⟩ : ∃ x : Int, x = m0 + m1 := ⟨_, rfl⟩
                      obtain ⟨n2_, hn2_⟩ : ∃ x : Int, x = n1_ + m2 := ⟨_, rfl⟩
                      obtain ⟨ww, hww⟩ : ∃ x : Int, x = n2_ + x3_ := ⟨_, rfl⟩
                      have j0 : IntKind.u32.wrap x0 = x0 := by rw [IntKind.wrap_u32']; omega
                      have j1 : IntKind.u32.wrap x1 = x1 := by rw [IntKind.wrap_u32']; omega
                      have j2 : IntKind.u32.wrap x2 = x2 := by rw [IntKind.wrap_u32']; omega
                      have j3 : IntKind.u32.wrap x3_ = x3_ := by rw [IntKind.wrap_u32']; omega
                      have j4 : IntKind.u32.wrap (x0 * 16777216) = m0 := by rw [IntKind.wrap_u32']; omega
                      have j5 : IntKind.u32.wrap (x1 * 65536) = m1 := by rw [IntKind.wrap_u32']; omega
                      have j6 : IntKind.u32.wrap (x2 * 256) = m2 := by rw [IntKind.wrap_u32']; omega
                      have j7 : IntKind.u32.wrap (m0 + m1) = n1_ := by rw [IntKind.wrap_u32']; omega
                      have j8 : IntKind.u32.wrap (n1_ + m2) = n2_ := by rw [IntKind.wrap_u32']; omega
                      have j9 : IntKind.u32.wrap (n2_ + x3_) = ww := by rw [IntKind.wrap_u32']; omega
                      have HWW := Lib.hid (show ww = wordD B i by rw [HWD.out]; omega)
                      have HSL := Lib.hid (show (schedN B i).set i ww = schedN B (i + 1) by rw [HWW.out, ← schedN_lo B i h16])
                      clear hm0 hm1 hm2 hn1_ hn2_ hww HWD k0 k1 k2 k3
                      go_wp2_with fail
                      refine Ol.way_drew (S := fun y => y.cell? ⟨qb, o0, none⟩ = some (.int .u8 x0) ∧ y.cell? ⟨qb, o1, none⟩ = some (.int .u8 x1) ∧ y.cell? ⟨qb, o2, none⟩ = some (.int .u8 x2) ∧ y.cell? ⟨qb, o3, none⟩ = some (.int .u8 x3_)) (stop := 43) (by as_aux_lemma => kernel_rfl) (⟨cb0, cb1, cb2, cb3⟩) (fun hS0 => ?_)
                      obtain ⟨y7, hy7⟩ : ∃ y, wr.drew = y := ⟨_, rfl⟩
                      have HS7 := Lib.hid (show y7.heap[q]? = some (.cells (nums .u32 (schedN B i)).toArray 29 (0, 0)) by rw [← hy7]; exact HS.out)
                      have HB7 := Lib.hid (show Below q y6 y7 by rw [← hy7]; exact HB2.out.drew)
                      clear cb0 cb1 cb2 cb3 HS HB2
                      rw [hy7] at hS0 ⊢
                      clear hy7
                      refine Ol.way_plain (i := 0) (v := ?_) rfl (by as_aux_lemma => kernel_rfl) (by as_aux_lemma => kernel_rfl) (by as_aux_lemma => kernel_rfl) (fun _ _ _ h => h) (by decide) (Or.inl ⟨by kernel_rfl, by (intro wz _; go_simp; try with_reducible rfl)⟩) (Ol.on hS0) ?_
                      go_simp
                      refine Ol.way_plain (i := 1) (v := ?_) rfl (by as_aux_lemma => kernel_rfl) (by as_aux_lemma => kernel_rfl) (by as_aux_lemma => kernel_rfl) (fun _ _ _ h => h) (by decide) (Or.inl ⟨by kernel_rfl, by (intro wz _; go_simp; try with_reducible rfl)⟩) (Ol.on hS0) ?_
                      go_simp
                      refine Ol.way_plain (i := 2) (v := ?_) rfl (by as_aux_lemma => kernel_rfl) (by as_aux_lemma => kernel_rfl) (by as_aux_lemma => kernel_rfl) (fun _ _ _ h => h) (by decide) (Or.inl ⟨by kernel_rfl, by (intro wz _; go_simp; try with_reducible rfl)⟩) (Ol.on hS0) ?_
                      go_simp
                      refine Ol.way_plain (i := 3) (v := ?_) rfl (by as_aux_lemma => kernel_rfl) (by as_aux_lemma => kernel_rfl) (by as_aux_lemma => kernel_rfl) (fun _ _ _ h => h) (by decide) (Or.inl ⟨by kernel_rfl, by (intro wz _; go_simp; try with_reducible rfl)⟩) (Ol.on hS0) ?_
                      go_simp
                      refine Ol.way_plain (i := 4) (v := ?_) rfl (by as_aux_lemma => kernel_rfl) (by as_aux_lemma => kernel_rfl) (by as_aux_lemma => kernel_rfl) (fun _ _ _ h => h) (by decide) (Or.inl ⟨by kernel_rfl, by (intro wz _; go_simp; try with_reducible rfl)⟩) (Ol.on hS0) ?_
                      go_simp
                      refine Ol.way_plain (i := 5) (v := ?_) rfl (by as_aux_lemma => kernel_rfl) (by as_aux_lemma => kernel_rfl) (by as_aux_lemma => kernel_rfl) (fun _ _ _ h => h) (by decide) (Or.inl ⟨by kernel_rfl, by (intro wz _; go_simp; try with_reducible rfl)⟩) (Ol.on hS0) ?_
                      go_simp
                      refine Ol.way_plain (i := 6) (v := ?_) rfl (by as_aux_lemma => kernel_rfl) (by as_aux_lemma => kernel_rfl) (by as_aux_lemma => kernel_rfl) (fun _ _ _ h => h) (by decide) (Or.inl ⟨by kernel_rfl, by (intro wz _; go_simp; try with_reducible rfl)⟩) (Ol.on hS0) ?_
                      go_simp
                      refine Ol.way_take (i := 7) (v := ?_) rfl (by as_aux_lemma => kernel_rfl) (by as_aux_lemma => kernel_rfl) (by as_aux_lemma => kernel_rfl) (fun _ _ _ h => h) (by decide) (by as_aux_lemma => kernel_rfl) (by as_aux_lemma => kernel_rfl) (Or.inl ⟨by kernel_rfl, by (intro wz hSz; have c0 := hSz.1; have c1 := hSz.2.1; have c2 := hSz.2.2.1; have c3 := hSz.2.2.2; go_simp; try with_reducible rfl)⟩) hS0 ?_
                      go_simp
                      refine Ol.way_plain (i := 8) (v := ?_) rfl (by as_aux_lemma => kernel_rfl) (by as_aux_lemma => kernel_rfl) (by as_aux_lemma => kernel_rfl) (fun _ _ _ h => h) (by decide) (Or.inl ⟨by kernel_rfl, by (intro wz _; go_simp; try with_reducible rfl)⟩) (Ol.on hS0) ?_
                      go_simp
                      refine Ol.way_plain (i := 9) (v := ?_) rfl (by as_aux_lemma => kernel_rfl) (by as_aux_lemma => kernel_rfl) (by as_aux_lemma => kernel_rfl) (fun _ _ _ h => h) (by decide) (Or.inl ⟨by kernel_rfl, by (intro wz _; go_simp; try with_reducible rfl)⟩) (Ol.on hS0) ?_
                      go_simp
                      refine Ol.way_plain (i := 10) (v := ?_) rfl (by as_aux_lemma => kernel_rfl) (by as_aux_lemma => kernel_rfl) (by as_aux_lemma => kernel_rfl) (fun _ _ _ h => h) (by decide) (Or.inl ⟨by kernel_rfl, by (intro wz _; go_simp; try with_reducible rfl)⟩) (Ol.on hS0) ?_
                      go_simp
                      refine Ol.way_plain (i := 11) (v := ?_) rfl (by as_aux_lemma => kernel_rfl) (by as_aux_lemma => kernel_rfl) (by as_aux_lemma => kernel_rfl) (fun _ _ _ h => h) (by decide) (Or.inl ⟨by kernel_rfl, by (intro wz _; go_simp; try with_reducible rfl)⟩) (Ol.on hS0) ?_
                      go_simp
                      refine Ol.way_plain (i := 12) (v := ?_) rfl (by as_aux_lemma => kernel_rfl) (by as_aux_lemma => kernel_rfl) (by as_aux_lemma => kernel_rfl) (fun _ _ _ h => h) (by decide) (Or.inl ⟨by kernel_rfl, by (intro wz _; go_simp; try with_reducible rfl)⟩) (Ol.on hS0) ?_
                      go_simp
                      refine Ol.way_plain (i := 13) (v := ?_) rfl (by as_aux_lemma => kernel_rfl) (by as_aux_lemma => kernel_rfl) (by as_aux_lemma => kernel_rfl) (fun _ _ _ h => h) (by decide) (Or.inl ⟨by kernel_rfl, by (intro wz _; go_simp; try with_reducible rfl)⟩) (Ol.on hS0) ?_
                      go_simp
                      refine Ol.way_plain (i := 14) (v := ?_) rfl (by as_aux_lemma => kernel_rfl) (by as_aux_lemma => kernel_rfl) (by as_aux_lemma => kernel_rfl) (fun _ _ _ h => h) (by decide) (Or.inl ⟨by kernel_rfl, by (intro wz _; go_simp; try with_reducible rfl)⟩) (Ol.on hS0) ?_
                      go_simp
                      refine Ol.way_plain (i := 15) (v := ?_) rfl (by as_aux_lemma => kernel_rfl) (by as_aux_lemma => kernel_rfl) (by as_aux_lemma => kernel_rfl) (fun _ _ _ h => h) (by decide) (Or.inl ⟨by kernel_rfl, by (intro wz _; go_simp; try with_reducible rfl)⟩) (Ol.on hS0) ?_
                      go_simp
                      refine Ol.way_plain (i := 16) (v := ?_) rfl (by as_aux_lemma => kernel_rfl) (by as_aux_lemma => kernel_rfl) (by as_aux_lemma => kernel_rfl) (fun _ _ _ h => h) (by decide) (Or.inl ⟨by kernel_rfl, by (intro wz _; go_simp; try with_reducible rfl)⟩) (Ol.on hS0) ?_
                      go_simp
                      refine Ol.way_take (i := 17) (v := ?_) rfl (by as_aux_lemma => kernel_rfl) (by as_aux_lemma => kernel_rfl) (by as_aux_lemma => kernel_rfl) (fun _ _ _ h => h) (by decide) (by as_aux_lemma => kernel_rfl) (by as_aux_lemma => kernel_rfl) (Or.inl ⟨by kernel_rfl, by (intro wz hSz; have c0 := hSz.1; have c1 := hSz.2.1; have c2 := hSz.2.2.1; have c3 := hSz.2.2.2; go_simp; try with_reducible rfl)⟩) hS0 ?_
                      go_simp
                      refine Ol.way_plain (i := 18) (v := ?_) rfl (by as_aux_lemma => kernel_rfl) (by as_aux_lemma => kernel_rfl) (by as_aux_lemma => kernel_rfl) (fun _ _ _ h => h) (by decide) (Or.inl ⟨by kernel_rfl, by (intro wz _; go_simp; try with_reducible rfl)⟩) (Ol.on hS0) ?_
                      go_simp
                      refine Ol.way_plain (i := 19) (v := ?_) rfl (by as_aux_lemma => kernel_rfl) (by as_aux_lemma => kernel_rfl) (by as_aux_lemma => kernel_rfl) (fun _ _ _ h => h) (by decide) (Or.inl ⟨by kernel_rfl, by (intro wz _; go_simp; try with_reducible rfl)⟩) (Ol.on hS0) ?_
                      go_simp
                      refine Ol.way_plain (i := 20) (v := ?_) rfl (by as_aux_lemma => kernel_rfl) (by as_aux_lemma => kernel_rfl) (by as_aux_lemma => kernel_rfl) (fun _ _ _ h => h) (by decide) (Or.inl ⟨by kernel_rfl, by (intro wz _; go_simp; try with_reducible rfl)⟩) (Ol.on hS0) ?_
                      go_simp
                      refine Ol.way_plain (i := 21) (v := ?_) rfl (by as_aux_lemma => kernel_rfl) (by as_aux_lemma => kernel_rfl) (by as_aux_lemma => kernel_rfl) (fun _ _ _ h => h) (by decide) (Or.inl ⟨by kernel_rfl, by (intro wz _; go_simp; try with_reducible rfl)⟩) (Ol.on hS0) ?_
                      go_simp
                      refine Ol.way_plain (i := 22) (v := ?_) rfl (by as_aux_lemma => kernel_rfl) (by as_aux_lemma => kernel_rfl) (by as_aux_lemma => kernel_rfl) (fun _ _ _ h => h) (by decide) (Or.inl ⟨by kernel_rfl, by (intro wz _; go_simp; try with_reducible rfl)⟩) (Ol.on hS0) ?_
                      go_simp
                      refine Ol.way_plain (i := 23) (v := ?_) rfl (by as_aux_lemma => kernel_rfl) (by as_aux_lemma => kernel_rfl) (by as_aux_lemma => kernel_rfl) (fun _ _ _ h => h) (by decide) (Or.inl ⟨by kernel_rfl, by (intro wz _; go_simp; try with_reducible rfl)⟩) (Ol.on hS0) ?_
                      go_simp
                      refine Ol.way_plain (i := 24) (v := ?_) rfl (by as_aux_lemma => kernel_rfl) (by as_aux_lemma => kernel_rfl) (by as_aux_lemma => kernel_rfl) (fun _ _ _ h => h) (by decide) (Or.inl ⟨by kernel_rfl, by (intro wz _; go_simp; try with_reducible rfl)⟩) (Ol.on hS0) ?_
                      go_simp
                      refine Ol.way_plain (i := 25) (v := ?_) rfl (by as_aux_lemma => kernel_rfl) (by as_aux_lemma => kernel_rfl) (by as_aux_lemma => kernel_rfl) (fun _ _ _ h => h) (by decide) (Or.inl ⟨by kernel_rfl, by (intro wz _; go_simp; try with_reducible rfl)⟩) (Ol.on hS0) ?_
                      go_simp
                      refine Ol.way_plain (i := 26) (v := ?_) rfl (by as_aux_lemma => kernel_rfl) (by as_aux_lemma => kernel_rfl) (by as_aux_lemma => kernel_rfl) (fun _ _ _ h => h) (by decide) (Or.inl ⟨by kernel_rfl, by (intro wz _; go_simp; try with_reducible rfl)⟩) (Ol.on hS0) ?_
                      go_simp
                      refine Ol.way_plain (i := 27) (v := ?_) rfl (by as_aux_lemma => kernel_rfl) (by as_aux_lemma => kernel_rfl) (by as_aux_lemma => kernel_rfl) (fun _ _ _ h => h) (by decide) (Or.inl ⟨by kernel_rfl, by (intro wz _; go_simp; try with_reducible rfl)⟩) (Ol.on hS0) ?_
                      go_simp
                      refine Ol.way_take (i := 28) (v := ?_) rfl (by as_aux_lemma => kernel_rfl) (by as_aux_lemma => kernel_rfl) (by as_aux_lemma => kernel_rfl) (fun _ _ _ h => h) (by decide) (by as_aux_lemma => kernel_rfl) (by as_aux_lemma => kernel_rfl) (Or.inl ⟨by kernel_rfl, by (intro wz hSz; have c0 := hSz.1; have c1 := hSz.2.1; have c2 := hSz.2.2.1; have c3 := hSz.2.2.2; go_simp; try with_reducible rfl)⟩) hS0 ?_
                      go_simp
                      refine Ol.way_plain (i := 29) (v := ?_) rfl (by as_aux_lemma => kernel_rfl) (by as_aux_lemma => kernel_rfl) (by as_aux_lemma => kernel_rfl) (fun _ _ _ h => h) (by decide) (Or.inl ⟨by kernel_rfl, by (intro wz _; go_simp; try with_reducible rfl)⟩) (Ol.on hS0) ?_
                      go_simp
                      refine Ol.way_plain (i := 30) (v := ?_) rfl (by as_aux_lemma => kernel_rfl) (by as_aux_lemma => kernel_rfl) (by as_aux_lemma => kernel_rfl) (fun _ _ _ h => h) (by decide) (Or.inl ⟨by kernel_rfl, by (intro wz _; go_simp; try with_reducible rfl)⟩) (Ol.on hS0) ?_
                      go_simp
                      refine Ol.way_plain (i := 31) (v := ?_) rfl (by as_aux_lemma => kernel_rfl) (by as_aux_lemma => kernel_rfl) (by as_aux_lemma => kernel_rfl) (fun _ _ _ h => h) (by decide) (Or.inl ⟨by kernel_rfl, by (intro wz _; go_simp; try with_reducible rfl)⟩) (Ol.on hS0) ?_
                      go_simp
                      refine Ol.way_plain (i := 32) (v := ?_) rfl (by as_aux_lemma => kernel_rfl) (by as_aux_lemma => kernel_rfl) (by as_aux_lemma => kernel_rfl) (fun _ _ _ h => h) (by decide) (Or.inl ⟨by kernel_rfl, by (intro wz _; go_simp; try with_reducible rfl)⟩) (Ol.on hS0) ?_
                      go_simp
                      refine Ol.way_plain (i := 33) (v := ?_) rfl (by as_aux_lemma => kernel_rfl) (by as_aux_lemma => kernel_rfl) (by as_aux_lemma => kernel_rfl) (fun _ _ _ h => h) (by decide) (Or.inl ⟨by kernel_rfl, by (intro wz _; go_simp; try with_reducible rfl)⟩) (Ol.on hS0) ?_
                      go_simp
                      refine Ol.way_plain (i := 34) (v := ?_) rfl (by as_aux_lemma => kernel_rfl) (by as_aux_lemma => kernel_rfl) (by as_aux_lemma => kernel_rfl) (fun _ _ _ h => h) (by decide) (Or.inl ⟨by kernel_rfl, by (intro wz _; go_simp; try with_reducible rfl)⟩) (Ol.on hS0) ?_
                      go_simp
                      refine Ol.way_plain (i := 35) (v := ?_) rfl (by as_aux_lemma => kernel_rfl) (by as_aux_lemma => kernel_rfl) (by as_aux_lemma => kernel_rfl) (fun _ _ _ h => h) (by decide) (Or.inl ⟨by kernel_rfl, by (intro wz _; go_simp; try with_reducible rfl)⟩) (Ol.on hS0) ?_
                      go_simp
                      refine Ol.way_plain (i := 36) (v := ?_) rfl (by as_aux_lemma => kernel_rfl) (by as_aux_lemma => kernel_rfl) (by as_aux_lemma => kernel_rfl) (fun _ _ _ h => h) (by decide) (Or.inl ⟨by kernel_rfl, by (intro wz _; go_simp; try with_reducible rfl)⟩) (Ol.on hS0) ?_
                      go_simp
                      refine Ol.way_plain (i := 37) (v := ?_) rfl (by as_aux_lemma => kernel_rfl) (by as_aux_lemma => kernel_rfl) (by as_aux_lemma => kernel_rfl) (fun _ _ _ h => h) (by decide) (Or.inl ⟨by kernel_rfl, by (intro wz _; go_simp; try with_reducible rfl)⟩) (Ol.on hS0) ?_
                      go_simp
                      refine Ol.way_plain (i := 38) (v := ?_) rfl (by as_aux_lemma => kernel_rfl) (by as_aux_lemma => kernel_rfl) (by as_aux_lemma => kernel_rfl) (fun _ _ _ h => h) (by decide) (Or.inl ⟨by kernel_rfl, by (intro wz _; go_simp; try with_reducible rfl)⟩) (Ol.on hS0) ?_
                      go_simp
                      refine Ol.way_take (i := 39) (v := ?_) rfl (by as_aux_lemma => kernel_rfl) (by as_aux_lemma => kernel_rfl) (by as_aux_lemma => kernel_rfl) (fun _ _ _ h => h) (by decide) (by as_aux_lemma => kernel_rfl) (by as_aux_lemma => kernel_rfl) (Or.inl ⟨by kernel_rfl, by (intro wz hSz; have c0 := hSz.1; have c1 := hSz.2.1; have c2 := hSz.2.2.1; have c3 := hSz.2.2.2; go_simp; try with_reducible rfl)⟩) hS0 ?_
                      go_simp
                      refine Ol.way_plain (i := 40) (v := ?_) rfl (by as_aux_lemma => kernel_rfl) (by as_aux_lemma => kernel_rfl) (by as_aux_lemma => kernel_rfl) (fun _ _ _ h => h) (by decide) (Or.inl ⟨by kernel_rfl, by (intro wz _; go_simp; try with_reducible rfl)⟩) (Ol.on hS0) ?_
                      go_simp
                      refine Ol.way_plain (i := 41) (v := ?_) rfl (by as_aux_lemma => kernel_rfl) (by as_aux_lemma => kernel_rfl) (by as_aux_lemma => kernel_rfl) (fun _ _ _ h => h) (by decide) (Or.inl ⟨by kernel_rfl, by (intro wz _; go_simp; try with_reducible rfl)⟩) (Ol.on hS0) ?_
                      go_simp
                      refine Ol.way_plain (i := 42) (v := ?_) rfl (by as_aux_lemma => kernel_rfl) (by as_aux_lemma => kernel_rfl) (by as_aux_lemma => kernel_rfl) (fun _ _ _ h => h) (by decide) (Or.inl ⟨by kernel_rfl, by (intro wz _; go_simp; try with_reducible rfl)⟩) (Ol.on hS0) ?_
                      go_simp
                      refine Ol.way_ready (rs := [43]) (by as_aux_lemma => kernel_rfl) (by simp) ?_
                      refine Ol.Each.cons rfl (fun K hK => ?_) Ol.Each.nil
                      have p0 := row_at HS7.out (j := i) (by rw [schedN_len]; exact hlt2)
                      have fz := row_free HS7.out i
                      go_simp
                      clear p0 fz
                      have HS8 := Lib.hid (show (y7.setCell ⟨q, i, none⟩ (.int .u32 ww)).heap[q]? = some (.cells (nums .u32 (schedN B (i + 1))).toArray 29 (0, 0)) by rw [← HSL.out]; exact row_put HS7.out i _)
                      have HB8 := Lib.hid (show Below q y6 (y7.setCell ⟨q, i, none⟩ (.int .u32 ww)) from HB7.out.setCell (by show q ≤ q; omega) _)
                      refine Ol.past hK (by as_aux_lemma => kernel_rfl) _ _ ?_
                      clear hK K
                      refine Ol.way_done (by as_aux_lemma => kernel_rfl) ?_ _
                      go_wp2_with fail
                      go_roundw
                      case rel => exact ⟨i + 1, by omega, by go_num, HS8, HB8⟩
                      case measure => simp [intOf]; omega
                  · as_aux_lemma =>
                      have h16' : ¬ (i : Int) < 16 := by omega
                      obtain ⟨i16, hi16⟩ : ∃ o : Nat, o = i - 16 := ⟨_, rfl⟩
                      have e16 : (i : Int) - 16 = (i16 : Int) := by omega
                      have v16 : IntKind.i64.wrap (i16 : Int) = (i16 : Int) := by rw [IntKind.wrap_i64]; omega
                      have l16 : (i16 : Int) < 64 := by omega
                      obtain ⟨w16, HW16⟩ : ∃ x : Int, Hid (x = (schedN B i).getD i16 0) := ⟨_, Lib.hid rfl⟩
                      have c16 : wr.cell? ⟨q, i16, none⟩ = some (.int .u32 w16) := by rw [HW16.out]; exact row_at HS.out (by rw [schedN_len]; omega)
                      obtain ⟨i15, hi15⟩ : ∃ o : Nat, o = i - 15 := ⟨_, rfl⟩
                      have e15 : (i : Int) - 15 = (i15 : Int) := by omega
                      have v15 : IntKind.i64.wrap (i15 : Int) = (i15 : Int) := by rw [IntKind.wrap_i64]; omega
                      have l15 : (i15 : Int) < 64 := by omega
                      obtain ⟨w15, HW15⟩ : ∃ x : Int, Hid (x = (schedN B i).getD i15 0) := ⟨_, Lib.hid rfl⟩
                      have c15 : wr.cell? ⟨q, i15, none⟩ = some (.int .u32 w15) := by rw [HW15.out]; exact row_at HS.out (by rw [schedN_len]; omega)
                      obtain ⟨i7, hi7⟩ : ∃ o : Nat, o = i - 7 := ⟨_, rfl⟩
                      have e7 : (i : Int) - 7 = (i7 : Int) := by omega
                      have v7 : IntKind.i64.wrap (i7 : Int) = (i7 : Int) := by rw [IntKind.wrap_i64]; omega
                      have l7 : (i7 : Int) < 64 := by omega
                      obtain ⟨w7, HW7⟩ : ∃ x : Int, Hid (x = (schedN B i).getD i7 0) := ⟨_, Lib.hid rfl⟩
                      have c7 : wr.cell? ⟨q, i7, none⟩ = some (.int .u32 w7) := by rw [HW7.out]; exact row_at HS.out (by rw [schedN_len]; omega)
                      obtain ⟨i2, hi2⟩ : ∃ o : Nat, o = i - 2 := ⟨_, rfl⟩
                      have e2 : (i : Int) - 2 = (i2 : Int) := by omega
                      have v2 : IntKind.i64.wrap (i2 : Int) = (i2 : Int) := by rw [IntKind.wrap_i64]; omega
                      have l2 : (i2 : Int) < 64 := by omega
                      obtain ⟨w2, HW2⟩ : ∃ x : Int, Hid (x = (schedN B i).getD i2 0) := ⟨_, Lib.hid rfl⟩
                      have c2 : wr.cell? ⟨q, i2, none⟩ = some (.int .u32 w2) := by rw [HW2.out]; exact row_at HS.out (by rw [schedN_len]; omega)
                      obtain ⟨s0, hs0⟩ : ∃ x : Int, bits .xor .u32 (bits .xor .u32 (rotr w15 7) (rotr w15 18)) (w15 / 8) = x := ⟨_, rfl⟩
                      obtain ⟨s1, hs1⟩ : ∃ x : Int, bits .xor .u32 (bits .xor .u32 (rotr w2 17) (rotr w2 19)) (w2 / 1024) = x := ⟨_, rfl⟩
                      obtain ⟨a1, Ha1⟩ : ∃ x : Int, Hid (x = Se.wr (w16 + s0)) := ⟨_, Lib.hid rfl⟩
                      have wa_a1 : IntKind.u32.wrap (w16 + s0) = a1 := by rw [IntKind.wrap_u32', Ha1.out]
                      have wb_a1 : (w16 + s0) % 4294967296 = a1 := by rw [Ha1.out]
                      obtain ⟨a2, Ha2⟩ : ∃ x : Int, Hid (x = Se.wr (a1 + w7)) := ⟨_, Lib.hid rfl⟩
                      have wa_a2 : IntKind.u32.wrap (a1 + w7) = a2 := by rw [IntKind.wrap_u32', Ha2.out]
                      have wb_a2 : (a1 + w7) % 4294967296 = a2 := by rw [Ha2.out]
                      obtain ⟨ww, Hww⟩ : ∃ x : Int, Hid (x = Se.wr (a2 + s1)) := ⟨_, Lib.hid rfl⟩
                      have wa_ww : IntKind.u32.wrap (a2 + s1) = ww := by rw [IntKind.wrap_u32', Hww.out]
                      have wb_ww : (a2 + s1) % 4294967296 = ww := by rw [Hww.out]
                      have HSL := Lib.hid (show (schedN B i).set i ww = schedN B (i + 1) by
                        rw [schedN_hi B i (by omega)]
                        congr 1
                        unfold nx
                        rw [← hi16, ← hi15, ← hi7, ← hi2, ← HW16.out, ← HW15.out, ← HW7.out, ← HW2.out]
                        show ww = Se.wr (Se.wr (Se.wr (bits .xor .u32 (bits .xor .u32 (rotr w2 17) (rotr w2 19)) (w2 / 1024) + w7) + bits .xor .u32 (bits .xor .u32 (rotr w15 7) (rotr w15 18)) (w15 / 8)) + w16)
                        rw [hs0, hs1, nx_is2, ← Ha1.out, ← Ha2.out, ← Hww.out])
                      have HL16 := Lib.hid (show i16 < (schedN B i).length by rw [schedN_len]; omega)
                      have HL7 := Lib.hid (show i7 < (schedN B i).length by rw [schedN_len]; omega)
                      clear hi16 hi15 hi7 hi2
                      go_wp2_with fail
                      go_quiet ((go_at_call 38; (first | with_reducible exact rt_7 _ _ _ | with_reducible exact rt_18 _ _ _)))
                      obtain ⟨y8, hq_8⟩ : ∃ y, wr.drewN nq = y := ⟨_, rfl⟩
                      have HS8 := Lib.hid (show y8.heap[q]? = some (.cells (nums .u32 (schedN B i)).toArray 29 (0, 0)) by rw [← hq_8]; exact HS.out)
                      have HB8 := Lib.hid (show Below q y6 y8 by rw [← hq_8]; exact below_drewQ HB2.out nq)
                      have c15_8 : y8.cell? ⟨q, i15, none⟩ = some (.int .u32 w15) := by rw [← hq_8]; exact c15
                      have c2_8 : y8.cell? ⟨q, i2, none⟩ = some (.int .u32 w2) := by rw [← hq_8]; exact c2
                      rw [hq_8]
                      clear hq_8 c15 c2
                      clear HS HB2 c16 c7
                      go_wp2_with fail
                      go_quiet ((go_at_call 38; (first | with_reducible exact rt_17 _ _ _ | with_reducible exact rt_19 _ _ _)))
                      obtain ⟨y9, hq_9⟩ : ∃ y, y8.drewN nq = y := ⟨_, rfl⟩
                      have HS9 := Lib.hid (show y9.heap[q]? = some (.cells (nums .u32 (schedN B i)).toArray 29 (0, 0)) by rw [← hq_9]; exact HS8.out)
                      have HB9 := Lib.hid (show Below q y6 y9 by rw [← hq_9]; exact below_drewQ HB8.out nq)
                      have c2_9 : y9.cell? ⟨q, i2, none⟩ = some (.int .u32 w2) := by rw [← hq_9]; exact c2_8
                      rw [hq_9]
                      clear hq_9 c2_8
                      clear HS8 HB8 c15_8 c2_9
                      go_wp2_with fail
                      refine Ol.way_drew (S := fun y => y.heap[q]? = some (.cells (nums .u32 (schedN B i)).toArray 29 (0, 0))) (stop := 15) (by as_aux_lemma => kernel_rfl) (HS9.out) (fun hS0 => ?_)
                      obtain ⟨y10, hy10⟩ : ∃ y, y9.drew = y := ⟨_, rfl⟩
                      have HS10 := Lib.hid (show y10.heap[q]? = some (.cells (nums .u32 (schedN B i)).toArray 29 (0, 0)) by rw [← hy10]; exact HS9.out)
                      have HB10 := Lib.hid (show Below q y6 y10 by rw [← hy10]; exact HB9.out.drew)
                      clear HS9 HB9
                      rw [hy10] at hS0 ⊢
                      clear hy10
                      refine Ol.way_plain (i := 0) (v := ?_) rfl (by as_aux_lemma => kernel_rfl) (by as_aux_lemma => kernel_rfl) (by as_aux_lemma => kernel_rfl) (fun _ _ _ h => h) (by decide) (Or.inl ⟨by kernel_rfl, by (intro wz _; go_simp; try with_reducible rfl)⟩) (Ol.on hS0) ?_
                      go_simp
                      refine Ol.way_plain (i := 1) (v := ?_) rfl (by as_aux_lemma => kernel_rfl) (by as_aux_lemma => kernel_rfl) (by as_aux_lemma => kernel_rfl) (fun _ _ _ h => h) (by decide) (Or.inl ⟨by kernel_rfl, by (intro wz _; go_simp; try with_reducible rfl)⟩) (Ol.on hS0) ?_
                      go_simp
                      refine Ol.way_plain (i := 2) (v := ?_) rfl (by as_aux_lemma => kernel_rfl) (by as_aux_lemma => kernel_rfl) (by as_aux_lemma => kernel_rfl) (fun _ _ _ h => h) (by decide) (Or.inl ⟨by kernel_rfl, by (intro wz _; go_simp; try with_reducible rfl)⟩) (Ol.on hS0) ?_
                      go_simp
                      refine Ol.way_plain (i := 3) (v := ?_) rfl (by as_aux_lemma => kernel_rfl) (by as_aux_lemma => kernel_rfl) (by as_aux_lemma => kernel_rfl) (fun _ _ _ h => h) (by decide) (Or.inl ⟨by kernel_rfl, by (intro wz _; go_simp; try with_reducible rfl)⟩) (Ol.on hS0) ?_
                      go_simp
                      refine Ol.way_take (i := 4) (v := ?_) rfl (by as_aux_lemma => kernel_rfl) (by as_aux_lemma => kernel_rfl) (by as_aux_lemma => kernel_rfl) (fun _ _ _ h => h) (by decide) (by as_aux_lemma => kernel_rfl) (by as_aux_lemma => kernel_rfl) (Or.inl ⟨by kernel_rfl, by (intro wz hSz; have pa : wz.cell? ⟨q, i16, none⟩ = some (.int .u32 w16) := (by rw [HW16.out]; exact row_at hSz HL16.out); have pb : wz.cell? ⟨q, i7, none⟩ = some (.int .u32 w7) := (by rw [HW7.out]; exact row_at hSz HL7.out); go_simp; try with_reducible rfl)⟩) hS0 ?_
                      go_simp
                      refine Ol.way_plain (i := 5) (v := ?_) rfl (by as_aux_lemma => kernel_rfl) (by as_aux_lemma => kernel_rfl) (by as_aux_lemma => kernel_rfl) (fun _ _ _ h => h) (by decide) (Or.inl ⟨by kernel_rfl, by (intro wz _; go_simp; try with_reducible rfl)⟩) (Ol.on hS0) ?_
                      go_simp
                      refine Ol.way_plain (i := 6) (v := ?_) rfl (by as_aux_lemma => kernel_rfl) (by as_aux_lemma => kernel_rfl) (by as_aux_lemma => kernel_rfl) (fun _ _ _ h => h) (by decide) (Or.inl ⟨by kernel_rfl, by (intro wz _; go_simp; try with_reducible rfl)⟩) (Ol.on hS0) ?_
                      go_simp
                      refine Ol.way_plain (i := 7) (v := ?_) rfl (by as_aux_lemma => kernel_rfl) (by as_aux_lemma => kernel_rfl) (by as_aux_lemma => kernel_rfl) (fun _ _ _ h => h) (by decide) (Or.inl ⟨by kernel_rfl, by (intro wz _; go_simp; try with_reducible rfl)⟩) (Ol.on hS0) ?_
                      go_simp
                      refine Ol.way_plain (i := 8) (v := ?_) rfl (by as_aux_lemma => kernel_rfl) (by as_aux_lemma => kernel_rfl) (by as_aux_lemma => kernel_rfl) (fun _ _ _ h => h) (by decide) (Or.inl ⟨by kernel_rfl, by (intro wz _; go_simp; try with_reducible rfl)⟩) (Ol.on hS0) ?_
                      go_simp
                      refine Ol.way_plain (i := 9) (v := ?_) rfl (by as_aux_lemma => kernel_rfl) (by as_aux_lemma => kernel_rfl) (by as_aux_lemma => kernel_rfl) (fun _ _ _ h => h) (by decide) (Or.inl ⟨by kernel_rfl, by (intro wz _; go_simp; try with_reducible rfl)⟩) (Ol.on hS0) ?_
                      go_simp
                      refine Ol.way_take (i := 10) (v := ?_) rfl (by as_aux_lemma => kernel_rfl) (by as_aux_lemma => kernel_rfl) (by as_aux_lemma => kernel_rfl) (fun _ _ _ h => h) (by decide) (by as_aux_lemma => kernel_rfl) (by as_aux_lemma => kernel_rfl) (Or.inl ⟨by kernel_rfl, by (intro wz hSz; have pa : wz.cell? ⟨q, i16, none⟩ = some (.int .u32 w16) := (by rw [HW16.out]; exact row_at hSz HL16.out); have pb : wz.cell? ⟨q, i7, none⟩ = some (.int .u32 w7) := (by rw [HW7.out]; exact row_at hSz HL7.out); go_simp; try with_reducible rfl)⟩) hS0 ?_
                      go_simp
                      refine Ol.way_plain (i := 11) (v := ?_) rfl (by as_aux_lemma => kernel_rfl) (by as_aux_lemma => kernel_rfl) (by as_aux_lemma => kernel_rfl) (fun _ _ _ h => h) (by decide) (Or.inl ⟨by kernel_rfl, by (intro wz _; go_simp; try with_reducible rfl)⟩) (Ol.on hS0) ?_
                      go_simp
                      refine Ol.way_plain (i := 12) (v := ?_) rfl (by as_aux_lemma => kernel_rfl) (by as_aux_lemma => kernel_rfl) (by as_aux_lemma => kernel_rfl) (fun _ _ _ h => h) (by decide) (Or.inl ⟨by kernel_rfl, by (intro wz _; go_simp; try with_reducible rfl)⟩) (Ol.on hS0) ?_
                      go_simp
                      refine Ol.way_plain (i := 13) (v := ?_) rfl (by as_aux_lemma => kernel_rfl) (by as_aux_lemma => kernel_rfl) (by as_aux_lemma => kernel_rfl) (fun _ _ _ h => h) (by decide) (Or.inl ⟨by kernel_rfl, by (intro wz _; go_simp; try with_reducible rfl)⟩) (Ol.on hS0) ?_
                      go_simp
                      refine Ol.way_plain (i := 14) (v := ?_) rfl (by as_aux_lemma => kernel_rfl) (by as_aux_lemma => kernel_rfl) (by as_aux_lemma => kernel_rfl) (fun _ _ _ h => h) (by decide) (Or.inl ⟨by kernel_rfl, by (intro wz _; go_simp; try with_reducible rfl)⟩) (Ol.on hS0) ?_
                      go_simp
                      refine Ol.way_ready (rs := [15]) (by as_aux_lemma => kernel_rfl) (by simp) ?_
                      refine Ol.Each.cons rfl (fun K hK => ?_) Ol.Each.nil
                      have p0 := row_at HS10.out (j := i) (by rw [schedN_len]; exact hlt2)
                      have fz := row_free HS10.out i
                      go_simp
                      clear p0 fz
                      have HS11 := Lib.hid (show (y10.setCell ⟨q, i, none⟩ (.int .u32 ww)).heap[q]? = some (.cells (nums .u32 (schedN B (i + 1))).toArray 29 (0, 0)) by rw [← HSL.out]; exact row_put HS10.out i _)
                      have HB11 := Lib.hid (show Below q y6 (y10.setCell ⟨q, i, none⟩ (.int .u32 ww)) from HB10.out.setCell (by show q ≤ q; omega) _)
                      refine Ol.past hK (by as_aux_lemma => kernel_rfl) _ _ ?_
                      clear hK K
                      refine Ol.way_done (by as_aux_lemma => kernel_rfl) ?_ _
                      go_wp2_with fail
                      go_roundw
                      case rel => exact ⟨i + 1, by omega, by go_num, HS11, HB11⟩
                      case measure => simp [intOf]; omega
                · have hge : ¬ (i : Int) < 64 := by omega
                  have HSC := Lib.hid (show wr.heap[q]? = some (.cells (nums .u32 (sched B 48)).toArray 29 (0, 0)) by have e := HS.out; rw [show i = 64 by omega, schedN_64] at e; exact e)
                  clear HS
                  go_upto_region 22 with fail
                  obtain ⟨RV, hRV⟩ : ∃ R, R = (nums .u32 (vk P k).l).toArray := ⟨_, rfl⟩
                  have hRs : RV.size = 8 := by rw [hRV]; rfl
                  have hhr := (HB2.out.block h8 (by omega)).trans HH6.out
                  rw [← hRV] at hhr
                  have HHV := Lib.hid hhr
                  have HSZ := Lib.hid (show (Tryd.prog.info? 28).map (·.size) = some RV.size by rw [hRs]; kernel_rfl)
                  have HZZ := Lib.hid (show (#[.int .u32 0, .int .u32 0, .int .u32 0, .int .u32 0, .int .u32 0, .int .u32 0, .int .u32 0, .int .u32 0] : Array Value).size = RV.size by rw [hRs]; rfl)
                  have HOO := Lib.hid (show RV.all (·.oneCell') = true by rw [hRV]; exact all_oneCell_toArray (nums_one _ _))
                  have HAL := Lib.hid (heap_alloc_last wr (.cells #[.int .u32 0, .int .u32 0, .int .u32 0, .int .u32 0, .int .u32 0, .int .u32 0, .int .u32 0, .int .u32 0] 28))
                  have HRV := Lib.hid hRV
                  clear hRs hRV hhr
                  go_wp2_with (first | (with_reducible refine wpList_load_row rfl 28 (.tmp 8) rfl h8 rfl 28 RV (0, 0) _ HHV.out Tryd.underlying28 rfl HSZ.out ?_) | (refine Au.wpList_store_row rfl 28 (.tmp 14) (.tmp 159) rfl (wr.alloc (.cells #[.int .u32 0, .int .u32 0, .int .u32 0, .int .u32 0, .int .u32 0, .int .u32 0, .int .u32 0, .int .u32 0] 28)) _ RV wr.heap.size 28 HAL.out rfl rfl HSZ.out HZZ.out HOO.out ?_))
                  have hN := setRow_heap _ (wr.heap.size) _ RV _ _ HAL.out
                  have hbn := Ve.below_n1 wr (.cells #[.int .u32 0, .int .u32 0, .int .u32 0, .int .u32 0, .int .u32 0, .int .u32 0, .int .u32 0, .int .u32 0] 28)
                  have HUx := below_setRow (g := wr.heap.size) hbn (Nat.le_refl _) RV
                  obtain ⟨y7, hy7⟩ : ∃ y, (wr.alloc (.cells #[.int .u32 0, .int .u32 0, .int .u32 0, .int .u32 0, .int .u32 0, .int .u32 0, .int .u32 0, .int .u32 0] 28)).setRow wr.heap.size RV = y := ⟨_, rfl⟩
                  rw [hy7] at hN HUx ⊢
                  have hqz : q < wr.heap.size := lt_heap HSC.out
                  have HS7 := Lib.hid ((HUx.block q hqz).trans HSC.out)
                  have HH7 := Lib.hid ((HUx.block h8 (by omega)).trans HHV.out)
                  have HB7 := Lib.hid (show Below h8 y5 y7 from HB6.out.trans ((HB2.out.mono (by omega)).trans (HUx.mono (by omega))))
                  obtain ⟨z, hz⟩ : ∃ z, z = wr.heap.size := ⟨_, rfl⟩
                  rw [← hz] at hN hqz ⊢
                  rw [HRV.out] at hN
                  have HZ7 := Lib.hid (show y7.heap[z]? = some (.cells (nums .u32 (rn (vk P k) (sched B 48) 0).l).toArray 28 (0, 0)) from hN)
                  have HT7 := Lib.hid ((HB7.out.block t hth).trans HT5.out)
                  clear hy7 hN hbn HUx hz HAL HSZ HZZ HOO HSC HHV HB2 HH6 HB6 HBY6
                  go_wp2_with fail
                  go_loopw [15] (fun iv wr => ∃ g : Nat, g ≤ 64 ∧ iv = .int .i64 g ∧ Hid (wr.heap[z]? = some (.cells (nums .u32 (rn (vk P k) (sched B 48) g).l).toArray 28 (0, 0))) ∧ Hid (Below z y7 wr)) (fun iv _ => 64 - (intOf iv).toNat)
                  case atStart => exact ⟨0, by omega, rfl, HZ7, Lib.hid (Below.refl _ _)⟩
                  case round =>
                    obtain ⟨g, hg, rfl, HZ, HB2⟩ := hrel
                    by_cases hlt2 : g < 64
                    · have hlt2' : (g : Int) < 64 := by omega
                      obtain ⟨V, hVe⟩ : ∃ V, V = rn (vk P k) (sched B 48) g := ⟨_, rfl⟩
                      have hok : V.ok := by rw [hVe]; exact rn_ok _ _ (vk_ok P k) g
                      have HVE := Lib.hid hVe
                      rw [← hVe] at HZ
                      clear hVe
                      obtain ⟨xa, xb, xc, xd, xe, xf, xg, xh⟩ := V
                      have hxe := hok xe (by simp [V8.l])
                      clear hok
                      obtain ⟨xk, HXK⟩ : ∃ x : Int, Hid (x = kt.getD g 0) := ⟨_, Lib.hid rfl⟩
                      obtain ⟨xw, HXW⟩ : ∃ x : Int, Hid (x = (sched B 48).getD g 0) := ⟨_, Lib.hid rfl⟩
                      obtain ⟨ne, hne⟩ : ∃ x : Int, x = 4294967295 - xe := ⟨_, rfl⟩
                      have hne1 : (4294967295 : Int) - xe = ne := hne.symm
                      have hne2 : IntKind.u32.wrap ne = ne := by rw [IntKind.wrap_u32']; omega
                      have hne3 : ne % 4294967296 = ne := by omega
                      have HNE := Lib.hid (show bits .xor .u32 IntKind.u32.max xe = ne by rw [notw xe hxe.1 hxe.2, hne])
                      clear hne hxe
                      obtain ⟨s1, hs1⟩ : ∃ x : Int, bits .xor .u32 (bits .xor .u32 (rotr xe 6) (rotr xe 11)) (rotr xe 25) = x := ⟨_, rfl⟩
                      obtain ⟨s2, hs2⟩ : ∃ x : Int, bits .xor .u32 (bits .xor .u32 (rotr xa 2) (rotr xa 13)) (rotr xa 22) = x := ⟨_, rfl⟩
                      obtain ⟨ch, hch⟩ : ∃ x : Int, bits .xor .u32 (bits .and .u32 xe xf) (bits .and .u32 ne xg) = x := ⟨_, rfl⟩
                      obtain ⟨mj, hmj⟩ : ∃ x : Int, bits .xor .u32 (bits .xor .u32 (bits .and .u32 xa xb) (bits .and .u32 xa xc)) (bits .and .u32 xb xc) = x := ⟨_, rfl⟩
                      obtain ⟨a1, Ha1⟩ : ∃ x : Int, Hid (x = Se.wr (xh + s1)) := ⟨_, Lib.hid rfl⟩
                      have wa_a1 : IntKind.u32.wrap (xh + s1) = a1 := by rw [IntKind.wrap_u32', Ha1.out]
                      have wb_a1 : (xh + s1) % 4294967296 = a1 := by rw [Ha1.out]
                      obtain ⟨a2, Ha2⟩ : ∃ x : Int, Hid (x = Se.wr (a1 + ch)) := ⟨_, Lib.hid rfl⟩
                      have wa_a2 : IntKind.u32.wrap (a1 + ch) = a2 := by rw [IntKind.wrap_u32', Ha2.out]
                      have wb_a2 : (a1 + ch) % 4294967296 = a2 := by rw [Ha2.out]
                      obtain ⟨a3, Ha3⟩ : ∃ x : Int, Hid (x = Se.wr (a2 + xk)) := ⟨_, Lib.hid rfl⟩
                      have wa_a3 : IntKind.u32.wrap (a2 + xk) = a3 := by rw [IntKind.wrap_u32', Ha3.out]
                      have wb_a3 : (a2 + xk) % 4294967296 = a3 := by rw [Ha3.out]
                      obtain ⟨t1_, Ht1_⟩ : ∃ x : Int, Hid (x = Se.wr (a3 + xw)) := ⟨_, Lib.hid rfl⟩
                      have wa_t1_ : IntKind.u32.wrap (a3 + xw) = t1_ := by rw [IntKind.wrap_u32', Ht1_.out]
                      have wb_t1_ : (a3 + xw) % 4294967296 = t1_ := by rw [Ht1_.out]
                      obtain ⟨a5, Ha5⟩ : ∃ x : Int, Hid (x = Se.wr (t1_ + s2)) := ⟨_, Lib.hid rfl⟩
                      have wa_a5 : IntKind.u32.wrap (t1_ + s2) = a5 := by rw [IntKind.wrap_u32', Ha5.out]
                      have wb_a5 : (t1_ + s2) % 4294967296 = a5 := by rw [Ha5.out]
                      obtain ⟨nA, HnA⟩ : ∃ x : Int, Hid (x = Se.wr (a5 + mj)) := ⟨_, Lib.hid rfl⟩
                      have wa_nA : IntKind.u32.wrap (a5 + mj) = nA := by rw [IntKind.wrap_u32', HnA.out]
                      have wb_nA : (a5 + mj) % 4294967296 = nA := by rw [HnA.out]
                      obtain ⟨nE, HnE⟩ : ∃ x : Int, Hid (x = Se.wr (xd + t1_)) := ⟨_, Lib.hid rfl⟩
                      have wa_nE : IntKind.u32.wrap (xd + t1_) = nE := by rw [IntKind.wrap_u32', HnE.out]
                      have wb_nE : (xd + t1_) % 4294967296 = nE := by rw [HnE.out]
                      have HRN := Lib.hid (show rnd ⟨xa, xb, xc, xd, xe, xf, xg, xh⟩ xk xw = ⟨nA, xa, xb, xc, nE, xe, xf, xg⟩ by
                        show (⟨Se.wr (Se.wr (Se.wr (Se.wr (Se.wr (Se.wr (xh + bits .xor .u32 (bits .xor .u32 (rotr xe 6) (rotr xe 11)) (rotr xe 25)) + bits .xor .u32 (bits .and .u32 xe xf) (bits .and .u32 (bits .xor .u32 IntKind.u32.max xe) xg)) + xk) + xw) + bits .xor .u32 (bits .xor .u32 (rotr xa 2) (rotr xa 13)) (rotr xa 22)) + bits .xor .u32 (bits .xor .u32 (bits .and .u32 xa xb) (bits .and .u32 xa xc)) (bits .and .u32 xb xc)), xa, xb, xc, Se.wr (xd + Se.wr (Se.wr (Se.wr (Se.wr (xh + bits .xor .u32 (bits .xor .u32 (rotr xe 6) (rotr xe 11)) (rotr xe 25)) + bits .xor .u32 (bits .and .u32 xe xf) (bits .and .u32 (bits .xor .u32 IntKind.u32.max xe) xg)) + xk) + xw)), xe, xf, xg⟩ : V8) = _
                        rw [HNE.out, hs1, hs2, hch, hmj, ← Ha1.out, ← Ha2.out, ← Ha3.out, ← Ht1_.out, ← Ha5.out, ← HnA.out, ← HnE.out])
                      have p4 : wr.cell? ⟨z, 4, none⟩ = some (.int .u32 xe) := row_at HZ.out (j := 4) (by show 4 < 8; omega)
                      go_wp2_with fail
                      go_quiet ((go_at_call 38; (first | with_reducible exact rt_6 _ _ _ | with_reducible exact rt_11 _ _ _ | with_reducible exact rt_25 _ _ _)))
                      clear p4
                      obtain ⟨y8, hq_8⟩ : ∃ y, wr.drewN nq = y := ⟨_, rfl⟩
                      have HZ8 := Lib.hid (show y8.heap[z]? = some (.cells (nums .u32 (⟨xa, xb, xc, xd, xe, xf, xg, xh⟩ : V8).l).toArray 28 (0, 0)) by rw [← hq_8]; exact HZ.out)
                      have HB8 := Lib.hid (show Below z y7 y8 by rw [← hq_8]; exact below_drewQ HB2.out nq)
                      rw [hq_8]
                      clear hq_8 HZ HB2
                      have p4b : y8.cell? ⟨z, 4, none⟩ = some (.int .u32 xe) := row_at HZ8.out (j := 4) (by show 4 < 8; omega)
                      have p5b : y8.cell? ⟨z, 5, none⟩ = some (.int .u32 xf) := row_at HZ8.out (j := 5) (by show 5 < 8; omega)
                      have p6b : y8.cell? ⟨z, 6, none⟩ = some (.int .u32 xg) := row_at HZ8.out (j := 6) (by show 6 < 8; omega)
                      have p7b : y8.cell? ⟨z, 7, none⟩ = some (.int .u32 xh) := row_at HZ8.out (j := 7) (by show 7 < 8; omega)
                      have pk : y8.cell? ⟨t, 8 + g, none⟩ = some (.int .u32 xk) := by
                        rw [HXK.out, ← tbl_hi g hlt2]
                        exact row_at ((HB8.out.block t (by omega)).trans HT7.out) (by rw [tbl_len]; omega)
                      have pw : y8.cell? ⟨q, g, none⟩ = some (.int .u32 xw) := by
                        rw [HXW.out]
                        exact row_at ((HB8.out.block q (by omega)).trans HS7.out) (by rw [sched_len]; omega)
                      go_wp2_with fail
                      go_quiet (fail)
                      clear p4b p5b p6b p7b pk pw
                      obtain ⟨y9, hq_9⟩ : ∃ y, y8.drewN nq = y := ⟨_, rfl⟩
                      have HZ9 := Lib.hid (show y9.heap[z]? = some (.cells (nums .u32 (⟨xa, xb, xc, xd, xe, xf, xg, xh⟩ : V8).l).toArray 28 (0, 0)) by rw [← hq_9]; exact HZ8.out)
                      have HB9 := Lib.hid (show Below z y7 y9 by rw [← hq_9]; exact below_drewQ HB8.out nq)
                      rw [hq_9]
                      clear hq_9 HZ8 HB8
                      have p0c : y9.cell? ⟨z, 0, none⟩ = some (.int .u32 xa) := row_at HZ9.out (j := 0) (by show 0 < 8; omega)
                      go_wp2_with fail
                      go_quiet ((go_at_call 38; (first | with_reducible exact rt_2 _ _ _ | with_reducible exact rt_13 _ _ _ | with_reducible exact rt_22 _ _ _)))
                      clear p0c
                      obtain ⟨y10, hq_10⟩ : ∃ y, y9.drewN nq = y := ⟨_, rfl⟩
                      have HZ10 := Lib.hid (show y10.heap[z]? = some (.cells (nums .u32 (⟨xa, xb, xc, xd, xe, xf, xg, xh⟩ : V8).l).toArray 28 (0, 0)) by rw [← hq_10]; exact HZ9.out)
                      have HB10 := Lib.hid (show Below z y7 y10 by rw [← hq_10]; exact below_drewQ HB9.out nq)
                      rw [hq_10]
                      clear hq_10 HZ9 HB9
                      have p0d : y10.cell? ⟨z, 0, none⟩ = some (.int .u32 xa) := row_at HZ10.out (j := 0) (by show 0 < 8; omega)
                      have p1d : y10.cell? ⟨z, 1, none⟩ = some (.int .u32 xb) := row_at HZ10.out (j := 1) (by show 1 < 8; omega)
                      have p2d : y10.cell? ⟨z, 2, none⟩ = some (.int .u32 xc) := row_at HZ10.out (j := 2) (by show 2 < 8; omega)
                      have p3d : y10.cell? ⟨z, 3, none⟩ = some (.int .u32 xd) := row_at HZ10.out (j := 3) (by show 3 < 8; omega)
                      have p4d : y10.cell? ⟨z, 4, none⟩ = some (.int .u32 xe) := row_at HZ10.out (j := 4) (by show 4 < 8; omega)
                      have p5d : y10.cell? ⟨z, 5, none⟩ = some (.int .u32 xf) := row_at HZ10.out (j := 5) (by show 5 < 8; omega)
                      have p6d : y10.cell? ⟨z, 6, none⟩ = some (.int .u32 xg) := row_at HZ10.out (j := 6) (by show 6 < 8; omega)
                      have p7d : y10.cell? ⟨z, 7, none⟩ = some (.int .u32 xh) := row_at HZ10.out (j := 7) (by show 7 < 8; omega)
                      have HSZ := Lib.hid (show (Tryd.prog.info? 28).map (·.size) = some (#[.int .u32 nA, .int .u32 xa, .int .u32 xb, .int .u32 xc, .int .u32 nE, .int .u32 xe, .int .u32 xf, .int .u32 xg] : Array Value).size by kernel_rfl)
                      have HZZ := Lib.hid (show (nums .u32 (⟨xa, xb, xc, xd, xe, xf, xg, xh⟩ : V8).l).toArray.size = (#[.int .u32 nA, .int .u32 xa, .int .u32 xb, .int .u32 xc, .int .u32 nE, .int .u32 xe, .int .u32 xf, .int .u32 xg] : Array Value).size from rfl)
                      have HOO := Lib.hid (show (#[.int .u32 nA, .int .u32 xa, .int .u32 xb, .int .u32 xc, .int .u32 nE, .int .u32 xe, .int .u32 xf, .int .u32 xg] : Array Value).all (·.oneCell') = true by simp [Value.oneCell'])
                      go_wp2_with (refine Au.wpList_store_row rfl 28 (.tmp 14) (.tmp 251) rfl y10 (nums .u32 (⟨xa, xb, xc, xd, xe, xf, xg, xh⟩ : V8).l).toArray #[.int .u32 nA, .int .u32 xa, .int .u32 xb, .int .u32 xc, .int .u32 nE, .int .u32 xe, .int .u32 xf, .int .u32 xg] z 28 HZ10.out rfl rfl HSZ.out HZZ.out HOO.out ?_)
                      have hN := setRow_heap y10 z _ #[.int .u32 nA, .int .u32 xa, .int .u32 xb, .int .u32 xc, .int .u32 nE, .int .u32 xe, .int .u32 xf, .int .u32 xg] _ _ HZ10.out
                      have HUx := below_setRow (g := z) HB10.out (Nat.le_refl _) #[.int .u32 nA, .int .u32 xa, .int .u32 xb, .int .u32 xc, .int .u32 nE, .int .u32 xe, .int .u32 xf, .int .u32 xg]
                      go_roundw
                      case rel =>
                        refine ⟨g + 1, by omega, by go_num, Lib.hid ?_, Lib.hid HUx⟩
                        rw [show rn (vk P k) (sched B 48) (g + 1) = rnd (rn (vk P k) (sched B 48) g) (kt.getD g 0) ((sched B 48).getD g 0) from rfl, ← HVE.out, ← HXK.out, ← HXW.out, HRN.out]
                        exact hN
                      case measure => simp [intOf]; omega
                    · have hge : ¬ (g : Int) < 64 := by omega
                      have HZ8 := Lib.hid (show wr.heap[z]? = some (.cells (nums .u32 (rn (vk P k) (sched B 48) 64).l).toArray 28 (0, 0)) by have e := HZ.out; rwa [show g = 64 by omega] at e)
                      have HH8 := Lib.hid ((HB2.out.block h8 (by omega)).trans HH7.out)
                      have HB8 := Lib.hid (HB7.out.trans (HB2.out.mono (by omega)))
                      clear HZ HB2
                      go_wp2_with fail
                      obtain ⟨VL, hVL⟩ : ∃ V, V = rn (vk P k) (sched B 48) 64 := ⟨_, rfl⟩
                      have HVL := Lib.hid hVL
                      rw [← hVL] at HZ8
                      have HH80 := Lib.hid (show wr.heap[h8]? = some (.cells (nums .u32 (sums (vk P k).l VL.l 0)).toArray 28 (0, 0)) by rw [sums_0, ← HRV.out]; exact HH8.out)
                      clear hVL HH8 HH7 HB7 HZ7 HS7 HT7
                      go_loopw [21] (fun iv wr => ∃ i : Nat, i ≤ 8 ∧ iv = .int .i64 i ∧ Hid (wr.heap[h8]? = some (.cells (nums .u32 (sums (vk P k).l VL.l i)).toArray 28 (0, 0))) ∧ Hid (wr.heap[z]? = some (.cells (nums .u32 VL.l).toArray 28 (0, 0))) ∧ Hid (Below h8 y5 wr)) (fun iv _ => 8 - (intOf iv).toNat)
                      case atStart => exact ⟨0, by omega, rfl, HH80, HZ8, HB8⟩
                      case round =>
                        obtain ⟨i, hi, rfl, HH9, HZ9, HB9⟩ := hrel
                        by_cases hlt2 : i < 8
                        · as_aux_lemma =>
                            have hlt2' : (i : Int) < 8 := by omega
                            obtain ⟨hs, HHS⟩ : ∃ x : Int, Hid (x = (sums (vk P k).l VL.l i).getD i 0) := ⟨_, Lib.hid rfl⟩
                            obtain ⟨vs, HVS⟩ : ∃ x : Int, Hid (x = VL.l.getD i 0) := ⟨_, Lib.hid rfl⟩
                            have ch8 : wr.cell? ⟨h8, i, none⟩ = some (.int .u32 hs) := by rw [HHS.out]; exact row_at HH9.out (by rw [sums_len]; exact hlt2)
                            have cz8 : wr.cell? ⟨z, i, none⟩ = some (.int .u32 vs) := by rw [HVS.out]; exact row_at HZ9.out (by show i < 8; exact hlt2)
                            obtain ⟨ns, Hns⟩ : ∃ x : Int, Hid (x = Se.wr (hs + vs)) := ⟨_, Lib.hid rfl⟩
                            have wa_ns : IntKind.u32.wrap (hs + vs) = ns := by rw [IntKind.wrap_u32', Hns.out]
                            have wb_ns : (hs + vs) % 4294967296 = ns := by rw [Hns.out]
                            have HSS := Lib.hid (show (sums (vk P k).l VL.l i).set i ns = sums (vk P k).l VL.l (i + 1) by rw [← sums_set _ _ _ hlt2, ← HHS.out, ← HVS.out, ← Hns.out])
                            go_wp2_with fail
                            refine Ol.way_drew (S := fun y => y.cell? ⟨h8, i, none⟩ = some (.int .u32 hs) ∧ y.cell? ⟨z, i, none⟩ = some (.int .u32 vs)) (stop := 9) (by as_aux_lemma => kernel_rfl) (⟨ch8, cz8⟩) (fun hS0 => ?_)
                            obtain ⟨y10, hy10⟩ : ∃ y, wr.drew = y := ⟨_, rfl⟩
                            have HH10 := Lib.hid (show y10.heap[h8]? = some (.cells (nums .u32 (sums (vk P k).l VL.l i)).toArray 28 (0, 0)) by rw [← hy10]; exact HH9.out)
                            have HZ10 := Lib.hid (show y10.heap[z]? = some (.cells (nums .u32 VL.l).toArray 28 (0, 0)) by rw [← hy10]; exact HZ9.out)
                            have HB10 := Lib.hid (show Below h8 y5 y10 by rw [← hy10]; exact HB9.out.drew)
                            clear HH9 HZ9 HB9 ch8 cz8
                            rw [hy10] at hS0 ⊢
                            clear hy10
                            refine Ol.way_plain (i := 0) (v := ?_) rfl (by as_aux_lemma => kernel_rfl) (by as_aux_lemma => kernel_rfl) (by as_aux_lemma => kernel_rfl) (fun _ _ _ h => h) (by decide) (Or.inl ⟨by kernel_rfl, by (intro wz _; go_simp; try with_reducible rfl)⟩) (Ol.on hS0) ?_
                            go_simp
                            refine Ol.way_plain (i := 1) (v := ?_) rfl (by as_aux_lemma => kernel_rfl) (by as_aux_lemma => kernel_rfl) (by as_aux_lemma => kernel_rfl) (fun _ _ _ h => h) (by decide) (Or.inl ⟨by kernel_rfl, by (intro wz _; go_simp; try with_reducible rfl)⟩) (Ol.on hS0) ?_
                            go_simp
                            refine Ol.way_plain (i := 2) (v := ?_) rfl (by as_aux_lemma => kernel_rfl) (by as_aux_lemma => kernel_rfl) (by as_aux_lemma => kernel_rfl) (fun _ _ _ h => h) (by decide) (Or.inl ⟨by kernel_rfl, by (intro wz _; go_simp; try with_reducible rfl)⟩) (Ol.on hS0) ?_
                            go_simp
                            refine Ol.way_take (i := 3) (v := ?_) rfl (by as_aux_lemma => kernel_rfl) (by as_aux_lemma => kernel_rfl) (by as_aux_lemma => kernel_rfl) (fun _ _ _ h => h) (by decide) (by as_aux_lemma => kernel_rfl) (by as_aux_lemma => kernel_rfl) (Or.inl ⟨by kernel_rfl, by (intro wz hSz; have c0 := hSz.1; have c1 := hSz.2; go_simp; try with_reducible rfl)⟩) hS0 ?_
                            go_simp
                            refine Ol.way_plain (i := 4) (v := ?_) rfl (by as_aux_lemma => kernel_rfl) (by as_aux_lemma => kernel_rfl) (by as_aux_lemma => kernel_rfl) (fun _ _ _ h => h) (by decide) (Or.inl ⟨by kernel_rfl, by (intro wz _; go_simp; try with_reducible rfl)⟩) (Ol.on hS0) ?_
                            go_simp
                            refine Ol.way_plain (i := 5) (v := ?_) rfl (by as_aux_lemma => kernel_rfl) (by as_aux_lemma => kernel_rfl) (by as_aux_lemma => kernel_rfl) (fun _ _ _ h => h) (by decide) (Or.inl ⟨by kernel_rfl, by (intro wz _; go_simp; try with_reducible rfl)⟩) (Ol.on hS0) ?_
                            go_simp
                            refine Ol.way_take (i := 6) (v := ?_) rfl (by as_aux_lemma => kernel_rfl) (by as_aux_lemma => kernel_rfl) (by as_aux_lemma => kernel_rfl) (fun _ _ _ h => h) (by decide) (by as_aux_lemma => kernel_rfl) (by as_aux_lemma => kernel_rfl) (Or.inl ⟨by kernel_rfl, by (intro wz hSz; have c0 := hSz.1; have c1 := hSz.2; go_simp; try with_reducible rfl)⟩) hS0 ?_
                            go_simp
                            refine Ol.way_plain (i := 7) (v := ?_) rfl (by as_aux_lemma => kernel_rfl) (by as_aux_lemma => kernel_rfl) (by as_aux_lemma => kernel_rfl) (fun _ _ _ h => h) (by decide) (Or.inl ⟨by kernel_rfl, by (intro wz _; go_simp; try with_reducible rfl)⟩) (Ol.on hS0) ?_
                            go_simp
                            refine Ol.way_plain (i := 8) (v := ?_) rfl (by as_aux_lemma => kernel_rfl) (by as_aux_lemma => kernel_rfl) (by as_aux_lemma => kernel_rfl) (fun _ _ _ h => h) (by decide) (Or.inl ⟨by kernel_rfl, by (intro wz _; go_simp; try with_reducible rfl)⟩) (Ol.on hS0) ?_
                            go_simp
                            refine Ol.way_ready (rs := [9]) (by as_aux_lemma => kernel_rfl) (by simp) ?_
                            refine Ol.Each.cons rfl (fun K hK => ?_) Ol.Each.nil
                            have p0 := row_at HH10.out (j := i) (by rw [sums_len]; exact hlt2)
                            have fz := row_free HH10.out i
                            go_simp
                            clear p0 fz
                            have HH11 := Lib.hid (show (y10.setCell ⟨h8, i, none⟩ (.int .u32 ns)).heap[h8]? = some (.cells (nums .u32 (sums (vk P k).l VL.l (i + 1))).toArray 28 (0, 0)) by rw [← HSS.out]; exact row_put HH10.out i _)
                            have HZ11 := Lib.hid (show (y10.setCell ⟨h8, i, none⟩ (.int .u32 ns)).heap[z]? = some (.cells (nums .u32 VL.l).toArray 28 (0, 0)) from (Below.heap_setCell _ _ _ _ (by show z ≠ h8; omega)).trans HZ10.out)
                            have HB11 := Lib.hid (show Below h8 y5 (y10.setCell ⟨h8, i, none⟩ (.int .u32 ns)) from HB10.out.setCell (by show h8 ≤ h8; omega) _)
                            refine Ol.past hK (by as_aux_lemma => kernel_rfl) _ _ ?_
                            clear hK K
                            refine Ol.way_done (by as_aux_lemma => kernel_rfl) ?_ _
                            go_wp2_with fail
                            go_roundw
                            case rel => exact ⟨i + 1, by omega, by go_num, HH11, HZ11, HB11⟩
                            case measure => simp [intOf]; omega
                        · have hge : ¬ (i : Int) < 8 := by omega
                          obtain ⟨p2, hp2⟩ : ∃ x : Nat, x = p + 64 := ⟨_, rfl⟩
                          have ep2 : (p : Int) + 64 = (p2 : Int) := by omega
                          have HP2 := Lib.hid (show p2 = 64 * (k + 1) by have := HPE.out; omega)
                          have hpp : p < p2 := by omega
                          have hup : p < u := by omega
                          clear hp2
                          have HHN := Lib.hid (show wr.heap[h8]? = some (.cells (nums .u32 (vk P (k + 1)).l).toArray 28 (0, 0)) by
                            have e := HH9.out
                            rw [show i = 8 by omega, sums_8, HVL.out, HBE.out] at e
                            exact e)
                          clear HH9 HZ9
                          go_wp2_with fail
                          go_roundw
                          case rel => exact ⟨k + 1, p2, by omega, HP2.out, by go_num, HHN, HB9⟩
                          case measure => simp [intOf]; omega
            · have hpu : ¬ (p : Int) < (u : Int) := by have := HUK.out; omega
              have HKK := Lib.hid (show k = K by have := HUK.out; omega)
              have HHF := Lib.hid (show wr.heap[h8]? = some (.cells (nums .u32 (vk P K).l).toArray 28 (0, 0)) by have e := HH.out; rwa [HKK.out] at e)
              clear HH
              go_upto_region 37 with fail
              have hN := heap_alloc_last wr (.cells Y32 26)
              have hbn := Ve.below_n1 wr (.cells Y32 26)
              obtain ⟨y6, hy6⟩ : ∃ y, wr.alloc (.cells Y32 26) = y := ⟨_, rfl⟩
              rw [hy6] at hN hbn ⊢
              have hlh : h8 < wr.heap.size := lt_heap HHF.out
              have HH6 := Lib.hid ((hbn.block h8 hlh).trans HHF.out)
              have HB6 := Lib.hid (HB.out.trans (hbn.mono (by omega)))
              obtain ⟨q, hq⟩ : ∃ q, q = wr.heap.size := ⟨_, rfl⟩
              rw [← hq] at hN hlh ⊢
              rw [y32_nums (vk P K).l] at hN
              have HD6 := Lib.hid hN
              clear hy6 hbn hN hq HB HHF
              go_wp2_with fail
              go_loopw [23] (fun iv wr => ∃ i : Nat, i ≤ 32 ∧ iv = .int .i64 i ∧ Hid (wr.heap[q]? = some (.cells (nums .u8 (digs (vk P K).l i)).toArray 26 (0, 0))) ∧ Hid (Below q y6 wr)) (fun iv _ => 32 - (intOf iv).toNat)
              case atStart => exact ⟨0, by omega, rfl, HD6, Lib.hid (Below.refl _ _)⟩
              case round =>
                obtain ⟨i, hi, rfl, HD, HB2⟩ := hrel
                by_cases hlt2 : i < 32
                · have hlt2' : (i : Int) < 32 := by omega
                  obtain ⟨i4, hi4⟩ : ∃ x : Nat, x = i / 4 := ⟨_, rfl⟩
                  obtain ⟨i3, hi3⟩ : ∃ x : Nat, x = i % 4 := ⟨_, rfl⟩
                  obtain ⟨d, hd⟩ : ∃ x : Nat, x = 3 - i3 := ⟨_, rfl⟩
                  obtain ⟨s8, hs8⟩ : ∃ x : Nat, x = 8 * d := ⟨_, rfl⟩
                  have e4 : (i : Int) / 4 = (i4 : Int) := by omega
                  have e3 : (i : Int) % 4 = (i3 : Int) := by omega
                  have ed : 3 - (i3 : Int) = (d : Int) := by omega
                  have es : 8 * (d : Int) = (s8 : Int) := by omega
                  have l4 : (i4 : Int) < 8 := by omega
                  have b8 : s8 ≤ 24 := by omega
                  have q5 : IntKind.u64.wrap (d : Int) = (d : Int) := wrap64 _ (by omega) (by omega)
                  have q6 : IntKind.u64.wrap (s8 : Int) = (s8 : Int) := wrap64 _ (by omega) (by omega)
                  have q7 : (d : Int) % 18446744073709551616 = (d : Int) := by omega
                  have q8 : (s8 : Int) % 18446744073709551616 = (s8 : Int) := by omega
                  obtain ⟨x, HX⟩ : ∃ x : Int, Hid (x = (vk P K).l.getD i4 0) := ⟨_, Lib.hid rfl⟩
                  have ch8 : wr.cell? ⟨h8, i4, none⟩ = some (.int .u32 x) := by rw [HX.out]; exact row_at ((HB2.out.block h8 hlh).trans HH6.out) (by show i4 < 8; omega)
                  have HDG := Lib.hid (show x / 2 ^ s8 % 256 = digB (vk P K).l i by unfold digB; rw [HX.out, hi4, hs8, hd, hi3])
                  obtain ⟨z0, hz0⟩ := (show ∃ z, wr.cell? ⟨q, i, none⟩ = some z from ⟨_, row_at HD.out (by rw [digs_len]; exact hlt2)⟩)
                  have hfz := row_free HD.out i
                  clear hi4 hi3 hd hs8
                  go_wp2_with fail
                  go_roundw
                  case rel =>
                    refine ⟨i + 1, by omega, by go_num, Lib.hid ?_, Lib.hid ?_⟩
                    · rw [HDG.out, ← digs_set]
                      exact row_put HD.out i _
                    · exact HB2.out.setCell (by show q ≤ q; omega) _
                  case measure => simp [intOf]; omega
                · have hge : ¬ (i : Int) < 32 := by omega
                  obtain ⟨R2, hRe⟩ : ∃ R, R = (nums .u8 (sha l)).toArray := ⟨_, rfl⟩
                  have hSH : sha l = digs (vk P K).l 32 := by
                    have e := HPK.out
                    rw [HP.out, HN.out] at e
                    rw [sha_vk l K e, ← HN.out, ← HP.out]
                    rfl
                  have hRs : R2.size = 32 := by rw [hRe]; simp [nums_length, sha_len]
                  have hQ : wr.heap[q]? = some (.cells R2 26 (0, 0)) := by rw [hRe, hSH]; have e := HD.out; rwa [show i = 32 by omega] at e
                  have hRR := (HB2.out.block r (by omega)).trans ((HB6.out.block r hrh).trans HR5.out)
                  have HUF := Lib.hid (HU5.out.trans ((HB6.out.mono hwh).trans (HB2.out.mono (by omega))))
                  have HE := Lib.hid hRe
                  have HQ3 := Lib.hid hQ
                  have HRR := Lib.hid hRR
                  have HSZ := Lib.hid (show (Tryd.prog.info? 26).map (·.size) = some R2.size by rw [hRs]; kernel_rfl)
                  have HZZ := Lib.hid (show Y32.size = R2.size by rw [hRs]; rfl)
                  have HOO := Lib.hid (show R2.all (·.oneCell') = true by rw [hRe]; exact all_oneCell_toArray (nums_one _ _))
                  clear hQ hRe hRs hRR HD HB2 hSH
                  go_wp2_with (first | (with_reducible refine wpList_load_row rfl 26 (.tmp 22) rfl q rfl 26 R2 (0, 0) _ HQ3.out Tryd.underlying26 rfl HSZ.out ?_) | (refine Au.wpList_store_row rfl 26 (.tmp 4) (.tmp 282) rfl wr Y32 R2 r 26 HRR.out rfl rfl HSZ.out HZZ.out HOO.out ?_))
                  have hN2 := setRow_heap wr r _ R2 _ _ HRR.out
                  exact bodyPost_ret (v := .agg R2) (results_cell_row Tryd.results24 _ _ r 26 R2 (0, 0) _ rfl hN2 Tryd.underlying26 rfl HSZ.out) rfl ⟨by rw [HE.out], below_setRow (g := r) HUF.out (by omega) R2⟩

end Go.Proofs.YtndpidmbfdpiaaaDoor.Se
