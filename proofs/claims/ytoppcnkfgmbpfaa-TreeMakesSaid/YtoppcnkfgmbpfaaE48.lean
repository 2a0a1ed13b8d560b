/- Trees: a pair holds another one; pairs as the program's. -/
import Derived.Test.YtoppcnkfgmbpfaaE41
import Derived.Test.YtoppcnkfgmbpfaaE23
namespace Go.Proofs.Ytoppcnkfgmbpfaa.Tr
open Go.RowKit Go.Proofs.Ytoppcnkfgmbpfaa Go.Proofs.Ytoppcnkfgmbpfaa.Wa Go.Proofs.Ytoppcnkfgmbpfaa.Ve Go.Proofs.Ytoppcnkfgmbpfaa.Au Go.Proofs.Ytoppcnkfgmbpfaa.Bx
set_option linter.unusedVariables false
set_option linter.unusedSimpArgs false

set_option maxHeartbeats 2000000 in
set_option maxRecDepth 100000 in
theorem holds_yes (p0_ p1_ p2_ p3_ p4_ p5_ p6_ p7_ p8_ p9_ p10_ p11_ q0_ q1_ q2_ q3_ q4_ q5_ q6_ q7_ q8_ q9_ q10_ q11_ : Int) (h0 : p0_ ≤ q0_) (k0 : q3_ ≤ p3_) (h1 : p1_ ≤ q1_) (k1 : q4_ ≤ p4_) (h2 : p2_ ≤ q2_) (k2 : q5_ ≤ p5_) (h3 : p6_ ≤ q6_) (k3 : q9_ ≤ p9_) (h4 : p7_ ≤ q7_) (k4 : q10_ ≤ p10_) (h5 : p8_ ≤ q8_) (k5 : q11_ ≤ p11_) (w : World)  : Calls Try.prog 13 #[.agg #[.int .i64 p0_, .int .i64 p1_, .int .i64 p2_, .int .i64 p3_, .int .i64 p4_, .int .i64 p5_, .int .i64 p6_, .int .i64 p7_, .int .i64 p8_, .int .i64 p9_, .int .i64 p10_, .int .i64 p11_], .agg #[.int .i64 q0_, .int .i64 q1_, .int .i64 q2_, .int .i64 q3_, .int .i64 q4_, .int .i64 q5_, .int .i64 q6_, .int .i64 q7_, .int .i64 q8_, .int .i64 q9_, .int .i64 q10_, .int .i64 q11_]] w fun e' w' => e' = .returned (.bool true) ∧ Below w.heap.size w w' := by
  obtain ⟨fa, hfa⟩ : ∃ f : Nat → Int, f = (fun k : Nat => if k = 0 then p0_ else if k = 1 then p1_ else if k = 2 then p2_ else if k = 3 then p6_ else if k = 4 then p7_ else p8_) := ⟨_, rfl⟩
  obtain ⟨fb, hfb⟩ : ∃ f : Nat → Int, f = (fun k : Nat => if k = 0 then q0_ else if k = 1 then q1_ else if k = 2 then q2_ else if k = 3 then q6_ else if k = 4 then q7_ else q8_) := ⟨_, rfl⟩
  obtain ⟨fc, hfc⟩ : ∃ f : Nat → Int, f = (fun k : Nat => if k = 0 then q3_ else if k = 1 then q4_ else if k = 2 then q5_ else if k = 3 then q9_ else if k = 4 then q10_ else q11_) := ⟨_, rfl⟩
  obtain ⟨fd, hfd⟩ : ∃ f : Nat → Int, f = (fun k : Nat => if k = 0 then p3_ else if k = 1 then p4_ else if k = 2 then p5_ else if k = 3 then p9_ else if k = 4 then p10_ else p11_) := ⟨_, rfl⟩
  have HLE := Lib.hid (show ∀ k, k < 6 → fa k ≤ fb k ∧ fc k ≤ fd k from fun k hk => by
    rw [hfa, hfb, hfc, hfd]
    match k, hk with
    | 0, _ => exact ⟨h0, k0⟩
    | 1, _ => exact ⟨h1, k1⟩
    | 2, _ => exact ⟨h2, k2⟩
    | 3, _ => exact ⟨h3, k3⟩
    | 4, _ => exact ⟨h4, k4⟩
    | 5, _ => exact ⟨h5, k5⟩)
  have HIX := Lib.hid (show ∀ k : Nat, k < 6 → ∀ W, (Instr.index 65 (.agg #[.int .i64 p0_, .int .i64 q0_, .int .i64 q3_, .int .i64 p3_, .int .i64 p1_, .int .i64 q1_, .int .i64 q4_, .int .i64 p4_, .int .i64 p2_, .int .i64 q2_, .int .i64 q5_, .int .i64 p5_, .int .i64 p6_, .int .i64 q6_, .int .i64 q9_, .int .i64 p9_, .int .i64 p7_, .int .i64 q7_, .int .i64 q10_, .int .i64 p10_, .int .i64 p8_, .int .i64 q8_, .int .i64 q11_, .int .i64 p11_]) (.int .i64 (k : Int))).run Try.prog W = .ok (.agg #[.int .i64 (fa k), .int .i64 (fb k), .int .i64 (fc k), .int .i64 (fd k)]) W from fun k hk W => by
    rw [hfa, hfb, hfc, hfd]
    match k, hk with
    | 0, _ => simp [Instr.index, go_sem]
    | 1, _ => simp [Instr.index, go_sem]
    | 2, _ => simp [Instr.index, go_sem]
    | 3, _ => simp [Instr.index, go_sem]
    | 4, _ => simp [Instr.index, go_sem]
    | 5, _ => simp [Instr.index, go_sem])
  clear hfa hfb hfc hfd h0 k0 h1 k1 h2 k2 h3 k3 h4 k4 h5 k5
  go_enter Try.func13, Try.ntmps13
  go_upto_region 1 with fail
  have hR := Au.rows2 w (.cells #[.int .i64 p0_, .int .i64 p1_, .int .i64 p2_, .int .i64 p3_, .int .i64 p4_, .int .i64 p5_, .int .i64 p6_, .int .i64 p7_, .int .i64 p8_, .int .i64 p9_, .int .i64 p10_, .int .i64 p11_] 43) (.cells #[.int .i64 q0_, .int .i64 q1_, .int .i64 q2_, .int .i64 q3_, .int .i64 q4_, .int .i64 q5_, .int .i64 q6_, .int .i64 q7_, .int .i64 q8_, .int .i64 q9_, .int .i64 q10_, .int .i64 q11_] 43)
  have HUx := below_n2 w (.cells #[.int .i64 p0_, .int .i64 p1_, .int .i64 p2_, .int .i64 p3_, .int .i64 p4_, .int .i64 p5_, .int .i64 p6_, .int .i64 p7_, .int .i64 p8_, .int .i64 p9_, .int .i64 p10_, .int .i64 p11_] 43) (.cells #[.int .i64 q0_, .int .i64 q1_, .int .i64 q2_, .int .i64 q3_, .int .i64 q4_, .int .i64 q5_, .int .i64 q6_, .int .i64 q7_, .int .i64 q8_, .int .i64 q9_, .int .i64 q10_, .int .i64 q11_] 43)
  obtain ⟨y0, hy0⟩ : ∃ y0, (w.alloc (.cells #[.int .i64 p0_, .int .i64 p1_, .int .i64 p2_, .int .i64 p3_, .int .i64 p4_, .int .i64 p5_, .int .i64 p6_, .int .i64 p7_, .int .i64 p8_, .int .i64 p9_, .int .i64 p10_, .int .i64 p11_] 43)).alloc (.cells #[.int .i64 q0_, .int .i64 q1_, .int .i64 q2_, .int .i64 q3_, .int .i64 q4_, .int .i64 q5_, .int .i64 q6_, .int .i64 q7_, .int .i64 q8_, .int .i64 q9_, .int .i64 q10_, .int .i64 q11_] 43) = y0 := ⟨_, rfl⟩
  rw [hy0] at hR HUx ⊢
  clear hy0
  have HU0 := Lib.hid HUx
  clear HUx
  obtain ⟨hr0_0, hr0_1⟩ := hR
  have c0_0 := cell_of_row _ _ 0 _ _ _ hr0_0
  have c0_1 := cell_of_row _ _ 1 _ _ _ hr0_0
  have c0_2 := cell_of_row _ _ 2 _ _ _ hr0_0
  have c0_3 := cell_of_row _ _ 3 _ _ _ hr0_0
  have c0_4 := cell_of_row _ _ 4 _ _ _ hr0_0
  have c0_5 := cell_of_row _ _ 5 _ _ _ hr0_0
  have c0_6 := cell_of_row _ _ 6 _ _ _ hr0_0
  have c0_7 := cell_of_row _ _ 7 _ _ _ hr0_0
  have c0_8 := cell_of_row _ _ 8 _ _ _ hr0_0
  have c0_9 := cell_of_row _ _ 9 _ _ _ hr0_0
  have c0_10 := cell_of_row _ _ 10 _ _ _ hr0_0
  have c0_11 := cell_of_row _ _ 11 _ _ _ hr0_0
  have c1_0 := cell_of_row _ _ 0 _ _ _ hr0_1
  have c1_1 := cell_of_row _ _ 1 _ _ _ hr0_1
  have c1_2 := cell_of_row _ _ 2 _ _ _ hr0_1
  have c1_3 := cell_of_row _ _ 3 _ _ _ hr0_1
  have c1_4 := cell_of_row _ _ 4 _ _ _ hr0_1
  have c1_5 := cell_of_row _ _ 5 _ _ _ hr0_1
  have c1_6 := cell_of_row _ _ 6 _ _ _ hr0_1
  have c1_7 := cell_of_row _ _ 7 _ _ _ hr0_1
  have c1_8 := cell_of_row _ _ 8 _ _ _ hr0_1
  have c1_9 := cell_of_row _ _ 9 _ _ _ hr0_1
  have c1_10 := cell_of_row _ _ 10 _ _ _ hr0_1
  have c1_11 := cell_of_row _ _ 11 _ _ _ hr0_1
  simp at c0_0 c0_1 c0_2 c0_3 c0_4 c0_5 c0_6 c0_7 c0_8 c0_9 c0_10 c0_11 c1_0 c1_1 c1_2 c1_3 c1_4 c1_5 c1_6 c1_7 c1_8 c1_9 c1_10 c1_11
  go_upto_region 2 with fail
  clear c0_0 c0_1 c0_2 c0_3 c0_4 c0_5 c0_6 c0_7 c0_8 c0_9 c0_10 c0_11 c1_0 c1_1 c1_2 c1_3 c1_4 c1_5 c1_6 c1_7 c1_8 c1_9 c1_10 c1_11
  obtain ⟨z, rfl⟩ : ∃ z : World, z = y0 := ⟨_, rfl⟩
  have HZ := HU0
  have hsz := HZ.out.size
  clear HU0 hr0_0 hr0_1
  go_loopw [6, 110] (fun s6 i wr => ∃ k : Nat, k ≤ 6 ∧ i = .int .i64 k ∧ Hid (Below z.heap.size z wr)) (fun _ i _ => 6 - (intOf i).toNat)
  case atStart => exact ⟨0, by omega, rfl, Lib.hid (Below.refl _ _)⟩
  case round =>
    obtain ⟨k, hk, rfl, HB⟩ := hrel
    have hbs := HB.out.size
    by_cases hk6 : k < 6
    · have hki : (k : Int) < 6 := by omega
      have hix := HIX.out k hk6
      obtain ⟨la, lb⟩ := HLE.out k hk6
      obtain ⟨a, ha⟩ : ∃ a, a = fa k := ⟨_, rfl⟩
      obtain ⟨b, hb⟩ : ∃ a, a = fb k := ⟨_, rfl⟩
      obtain ⟨c, hc⟩ : ∃ a, a = fc k := ⟨_, rfl⟩
      obtain ⟨d, hd⟩ : ∃ a, a = fd k := ⟨_, rfl⟩
      rw [← ha, ← hb, ← hc, ← hd] at hix
      rw [← ha, ← hb] at la
      rw [← hc, ← hd] at lb
      have la2 : ¬ b < a := by omega
      have lb2 : ¬ d < c := by omega
      clear ha hb hc hd la lb
      obtain ⟨y90, rfl⟩ : ∃ y : World, y = wr := ⟨_, rfl⟩
      have HU90 := HB
      have HA := Lib.hid (heap_alloc_last y90 (.cells #[.int .i64 0, .int .i64 0, .int .i64 0, .int .i64 0] 64))
      have hHi := Lib.hid (show (Try.prog.info? 64).map (·.size) = some (#[.int .i64 a, .int .i64 b, .int .i64 c, .int .i64 d] : Array Value).size by kernel_rfl)
      have hHz := Lib.hid (show (#[.int .i64 0, .int .i64 0, .int .i64 0, .int .i64 0] : Array Value).size = (#[.int .i64 a, .int .i64 b, .int .i64 c, .int .i64 d] : Array Value).size from rfl)
      have hHo := Lib.hid (show (#[.int .i64 a, .int .i64 b, .int .i64 c, .int .i64 d] : Array Value).all (·.oneCell') = true by simp [Value.oneCell'])
      go_upto_region 4 with (refine Au.wpList_store_row rfl 64 (.tmp 6) (.tmp 112) rfl (y90.alloc (.cells #[.int .i64 0, .int .i64 0, .int .i64 0, .int .i64 0] 64)) #[.int .i64 0, .int .i64 0, .int .i64 0, .int .i64 0] #[.int .i64 a, .int .i64 b, .int .i64 c, .int .i64 d] (y90.heap.size) 64 HA.out rfl rfl hHi.out hHz.out hHo.out ?_)
      clear hHi hHz hHo
      have hN := setRow_heap _ (y90.heap.size) _ #[.int .i64 a, .int .i64 b, .int .i64 c, .int .i64 d] _ _ HA.out
      clear HA
      have hsz := HU90.out.size
      have hb := below_n1 y90 (.cells #[.int .i64 0, .int .i64 0, .int .i64 0, .int .i64 0] 64)
      have HUx := below_setRow (g := y90.heap.size) (HU90.out.trans (hb.mono HU90.out.size)) (by omega) #[.int .i64 a, .int .i64 b, .int .i64 c, .int .i64 d]
      have hO : ∀ kk, kk < y90.heap.size → ((y90.alloc (.cells #[.int .i64 0, .int .i64 0, .int .i64 0, .int .i64 0] 64)).setRow (y90.heap.size) #[.int .i64 a, .int .i64 b, .int .i64 c, .int .i64 d]).heap[kk]? = y90.heap[kk]? := fun kk hk => (setRow_other _ _ _ _ (by omega)).trans (hb.block _ hk)
      obtain ⟨y91, hy91⟩ : ∃ y, (y90.alloc (.cells #[.int .i64 0, .int .i64 0, .int .i64 0, .int .i64 0] 64)).setRow (y90.heap.size) #[.int .i64 a, .int .i64 b, .int .i64 c, .int .i64 d] = y := ⟨_, rfl⟩
      have hs91 : y91.heap.size = y90.heap.size + 1 := by rw [← hy91]; simp [World.setRow]
      rw [hy91] at hN HUx hO ⊢
      clear hy91 hsz hb
      have HU91 := Lib.hid HUx
      clear HUx
      have hr91_0 := hN
      clear hN hO
      clear HU90
      have c0_0 := cell_of_row _ _ 0 _ _ _ hr91_0
      have c0_1 := cell_of_row _ _ 1 _ _ _ hr91_0
      have c0_2 := cell_of_row _ _ 2 _ _ _ hr91_0
      have c0_3 := cell_of_row _ _ 3 _ _ _ hr91_0
      simp at c0_0 c0_1 c0_2 c0_3
      clear hix
      go_wp2_with fail
      go_roundw
      case rel => exact ⟨k + 1, by omega, by go_num, HU91⟩
      case measure => simp [intOf]; omega
    · have hkm : k = 6 := by omega
      subst hkm
      go_wp2_with fail
      go_ret
      exact ⟨rfl, HZ.out.trans (HB.out.mono hsz)⟩


theorem flat12_same (L : Nat → Int) (k : Nat) : flat12 L (k + 1) = flat12 L k ++ [.int .i64 (L (k * 12)), .int .i64 (L (k * 12 + 1)), .int .i64 (L (k * 12 + 2)), .int .i64 (L (k * 12 + 3)), .int .i64 (L (k * 12 + 4)), .int .i64 (L (k * 12 + 5)), .int .i64 (L (k * 12 + 6)), .int .i64 (L (k * 12 + 7)), .int .i64 (L (k * 12 + 8)), .int .i64 (L (k * 12 + 9)), .int .i64 (L (k * 12 + 10)), .int .i64 (L (k * 12 + 11))] := flat12_step L k

set_option maxHeartbeats 4000000 in
set_option maxRecDepth 100000 in
theorem pairs_l (a : Option Addr) (n cap : Nat) (L : Nat → Int) (hm : n ≤ 1000) (w : World) (hv : Ni.Nums 12 w a n L) :
    Calls Try.prog 7 #[.slice a n cap] w fun e w' => (∃ v', e = .returned v' ∧ w'.ownsRow w.heap.size 43 12 v' n (flat12 L n)) ∧ Below w.heap.size w w' := by

  obtain ⟨i0, hi, hz0, hz1, hz2⟩ := info_parts infoPairP
  have HV := Lib.hid hv
  clear hv
  go_enter Try.func7, Try.ntmps7
  go_upto_region 3 with fail
  go_loopw [3, 5, 8] (fun u s5 i wr => ∃ k : Nat, k ≤ n ∧ i = .int .i64 k ∧ Hid (wr.ownsRow w.heap.size 43 12 u k (flat12 L k)) ∧ Hid (Below w.heap.size w wr)) (fun _ _ i _ => n - (intOf i).toNat)
  case atStart => exact ⟨0, by omega, rfl, Lib.hid (by simpa [flat12] using World.ownsRow_nil _ _ _ _), Lib.hid (Below.refl _ _)⟩
  case round =>
    obtain ⟨k, hk, rfl, HO, HB⟩ := hrel
    have hbs := HB.out.size
    by_cases hlt' : k < n
    · have hki : (k : Int) < (n : Int) := by omega
      rcases HV.out with ⟨-, hx0 | ⟨gl, ol, hform, hgl, hcell⟩⟩
      · exact absurd hx0 (by omega)
      subst hform
      have HST := Lib.hid (flat12_same L k)
      have HRG := Lib.hid (show wr.rangeAt gl (ol + k * 12) [.int .i64 (L (k * 12)), .int .i64 (L (k * 12 + 1)), .int .i64 (L (k * 12 + 2)), .int .i64 (L (k * 12 + 3)), .int .i64 (L (k * 12 + 4)), .int .i64 (L (k * 12 + 5)), .int .i64 (L (k * 12 + 6)), .int .i64 (L (k * 12 + 7)), .int .i64 (L (k * 12 + 8)), .int .i64 (L (k * 12 + 9)), .int .i64 (L (k * 12 + 10)), .int .i64 (L (k * 12 + 11))] from fun j u hj => by
        rw [show ol + k * 12 + j = ol + (k * 12 + j) by omega]
        have a1 := fun (h : j < 12) => (HB.out.cell (p := ⟨gl, ol + (k * 12 + j), none⟩) hgl).trans (hcell (k * 12 + j) (by omega))
        match j, hj with
        | 0, hj => exact (a1 (by omega)).trans (by simpa using hj)
        | 1, hj => exact (a1 (by omega)).trans (by simpa using hj)
        | 2, hj => exact (a1 (by omega)).trans (by simpa using hj)
        | 3, hj => exact (a1 (by omega)).trans (by simpa using hj)
        | 4, hj => exact (a1 (by omega)).trans (by simpa using hj)
        | 5, hj => exact (a1 (by omega)).trans (by simpa using hj)
        | 6, hj => exact (a1 (by omega)).trans (by simpa using hj)
        | 7, hj => exact (a1 (by omega)).trans (by simpa using hj)
        | 8, hj => exact (a1 (by omega)).trans (by simpa using hj)
        | 9, hj => exact (a1 (by omega)).trans (by simpa using hj)
        | 10, hj => exact (a1 (by omega)).trans (by simpa using hj)
        | 11, hj => exact (a1 (by omega)).trans (by simpa using hj)
        )
      obtain ⟨v0_, hv0_⟩ : ∃ x, x = L (k * 12) := ⟨_, rfl⟩
      obtain ⟨v1_, hv1_⟩ : ∃ x, x = L (k * 12 + 1) := ⟨_, rfl⟩
      obtain ⟨v2_, hv2_⟩ : ∃ x, x = L (k * 12 + 2) := ⟨_, rfl⟩
      obtain ⟨v3_, hv3_⟩ : ∃ x, x = L (k * 12 + 3) := ⟨_, rfl⟩
      obtain ⟨v4_, hv4_⟩ : ∃ x, x = L (k * 12 + 4) := ⟨_, rfl⟩
      obtain ⟨v5_, hv5_⟩ : ∃ x, x = L (k * 12 + 5) := ⟨_, rfl⟩
      obtain ⟨v6_, hv6_⟩ : ∃ x, x = L (k * 12 + 6) := ⟨_, rfl⟩
      obtain ⟨v7_, hv7_⟩ : ∃ x, x = L (k * 12 + 7) := ⟨_, rfl⟩
      obtain ⟨v8_, hv8_⟩ : ∃ x, x = L (k * 12 + 8) := ⟨_, rfl⟩
      obtain ⟨v9_, hv9_⟩ : ∃ x, x = L (k * 12 + 9) := ⟨_, rfl⟩
      obtain ⟨v10_, hv10_⟩ : ∃ x, x = L (k * 12 + 10) := ⟨_, rfl⟩
      obtain ⟨v11_, hv11_⟩ : ∃ x, x = L (k * 12 + 11) := ⟨_, rfl⟩
      rw [← hv0_, ← hv1_, ← hv2_, ← hv3_, ← hv4_, ← hv5_, ← hv6_, ← hv7_, ← hv8_, ← hv9_, ← hv10_, ← hv11_] at HST HRG
      clear hv0_ hv1_ hv2_ hv3_ hv4_ hv5_ hv6_ hv7_ hv8_ hv9_ hv10_ hv11_ hcell
      obtain ⟨y90, rfl⟩ : ∃ y : World, y = wr := ⟨_, rfl⟩
      have HU90 := Lib.hid (Below.refl y90.heap.size y90)
      have HA := Lib.hid (heap_alloc_last y90 (.cells #[.int .i64 0, .int .i64 0, .int .i64 0, .int .i64 0, .int .i64 0, .int .i64 0, .int .i64 0, .int .i64 0, .int .i64 0, .int .i64 0, .int .i64 0, .int .i64 0] 51))
      have hHi := Lib.hid (show (Try.prog.info? 51).map (·.size) = some (#[.int .i64 v0_, .int .i64 v1_, .int .i64 v2_, .int .i64 v3_, .int .i64 v4_, .int .i64 v5_, .int .i64 v6_, .int .i64 v7_, .int .i64 v8_, .int .i64 v9_, .int .i64 v10_, .int .i64 v11_] : Array Value).size by kernel_rfl)
      have hHz := Lib.hid (show (#[.int .i64 0, .int .i64 0, .int .i64 0, .int .i64 0, .int .i64 0, .int .i64 0, .int .i64 0, .int .i64 0, .int .i64 0, .int .i64 0, .int .i64 0, .int .i64 0] : Array Value).size = (#[.int .i64 v0_, .int .i64 v1_, .int .i64 v2_, .int .i64 v3_, .int .i64 v4_, .int .i64 v5_, .int .i64 v6_, .int .i64 v7_, .int .i64 v8_, .int .i64 v9_, .int .i64 v10_, .int .i64 v11_] : Array Value).size from rfl)
      have hHo := Lib.hid (show (#[.int .i64 v0_, .int .i64 v1_, .int .i64 v2_, .int .i64 v3_, .int .i64 v4_, .int .i64 v5_, .int .i64 v6_, .int .i64 v7_, .int .i64 v8_, .int .i64 v9_, .int .i64 v10_, .int .i64 v11_] : Array Value).all (·.oneCell') = true by simp [Value.oneCell'])
      go_upto_region 5 with (first | (with_reducible refine wpList_load_mid rfl 51 (.tmp 10) rfl gl (ol + k * 12) rfl [.int .i64 v0_, .int .i64 v1_, .int .i64 v2_, .int .i64 v3_, .int .i64 v4_, .int .i64 v5_, .int .i64 v6_, .int .i64 v7_, .int .i64 v8_, .int .i64 v9_, .int .i64 v10_, .int .i64 v11_] _ HRG.out Try.underlying51 rfl (by kernel_rfl) ?_) | (refine Au.wpList_store_row rfl 51 (.tmp 5) (.tmp 11) rfl (y90.alloc (.cells #[.int .i64 0, .int .i64 0, .int .i64 0, .int .i64 0, .int .i64 0, .int .i64 0, .int .i64 0, .int .i64 0, .int .i64 0, .int .i64 0, .int .i64 0, .int .i64 0] 51)) #[.int .i64 0, .int .i64 0, .int .i64 0, .int .i64 0, .int .i64 0, .int .i64 0, .int .i64 0, .int .i64 0, .int .i64 0, .int .i64 0, .int .i64 0, .int .i64 0] #[.int .i64 v0_, .int .i64 v1_, .int .i64 v2_, .int .i64 v3_, .int .i64 v4_, .int .i64 v5_, .int .i64 v6_, .int .i64 v7_, .int .i64 v8_, .int .i64 v9_, .int .i64 v10_, .int .i64 v11_] (y90.heap.size) 51 HA.out rfl rfl hHi.out hHz.out hHo.out ?_))
      clear hHi hHz hHo
      have hN := setRow_heap _ (y90.heap.size) _ #[.int .i64 v0_, .int .i64 v1_, .int .i64 v2_, .int .i64 v3_, .int .i64 v4_, .int .i64 v5_, .int .i64 v6_, .int .i64 v7_, .int .i64 v8_, .int .i64 v9_, .int .i64 v10_, .int .i64 v11_] _ _ HA.out
      clear HA
      have hsz := HU90.out.size
      have hb := below_n1 y90 (.cells #[.int .i64 0, .int .i64 0, .int .i64 0, .int .i64 0, .int .i64 0, .int .i64 0, .int .i64 0, .int .i64 0, .int .i64 0, .int .i64 0, .int .i64 0, .int .i64 0] 51)
      have HUx := below_setRow (g := y90.heap.size) (HU90.out.trans (hb.mono HU90.out.size)) (by omega) #[.int .i64 v0_, .int .i64 v1_, .int .i64 v2_, .int .i64 v3_, .int .i64 v4_, .int .i64 v5_, .int .i64 v6_, .int .i64 v7_, .int .i64 v8_, .int .i64 v9_, .int .i64 v10_, .int .i64 v11_]
      have hO : ∀ kk, kk < y90.heap.size → ((y90.alloc (.cells #[.int .i64 0, .int .i64 0, .int .i64 0, .int .i64 0, .int .i64 0, .int .i64 0, .int .i64 0, .int .i64 0, .int .i64 0, .int .i64 0, .int .i64 0, .int .i64 0] 51)).setRow (y90.heap.size) #[.int .i64 v0_, .int .i64 v1_, .int .i64 v2_, .int .i64 v3_, .int .i64 v4_, .int .i64 v5_, .int .i64 v6_, .int .i64 v7_, .int .i64 v8_, .int .i64 v9_, .int .i64 v10_, .int .i64 v11_]).heap[kk]? = y90.heap[kk]? := fun kk hk => (setRow_other _ _ _ _ (by omega)).trans (hb.block _ hk)
      obtain ⟨y91, hy91⟩ : ∃ y, (y90.alloc (.cells #[.int .i64 0, .int .i64 0, .int .i64 0, .int .i64 0, .int .i64 0, .int .i64 0, .int .i64 0, .int .i64 0, .int .i64 0, .int .i64 0, .int .i64 0, .int .i64 0] 51)).setRow (y90.heap.size) #[.int .i64 v0_, .int .i64 v1_, .int .i64 v2_, .int .i64 v3_, .int .i64 v4_, .int .i64 v5_, .int .i64 v6_, .int .i64 v7_, .int .i64 v8_, .int .i64 v9_, .int .i64 v10_, .int .i64 v11_] = y := ⟨_, rfl⟩
      have hs91 : y91.heap.size = y90.heap.size + 1 := by rw [← hy91]; simp [World.setRow]
      rw [hy91] at hN HUx hO ⊢
      clear hy91 hsz hb
      have HU91 := Lib.hid HUx
      clear HUx
      have hr91_0 := hN
      clear hN hO
      clear HU90
      have HWL0 := Lib.hid hr91_0
      have HWZ0 := Lib.hid (show (Try.prog.info? 51).map (·.size) = some (#[.int .i64 v0_, .int .i64 v1_, .int .i64 v2_, .int .i64 v3_, .int .i64 v4_, .int .i64 v5_, .int .i64 v6_, .int .i64 v7_, .int .i64 v8_, .int .i64 v9_, .int .i64 v10_, .int .i64 v11_] : Array Value).size by kernel_rfl)
      go_wp2_with (first | (with_reducible refine wpList_load_row rfl 51 (.tmp 5) rfl (y90.heap.size) rfl 51 #[.int .i64 v0_, .int .i64 v1_, .int .i64 v2_, .int .i64 v3_, .int .i64 v4_, .int .i64 v5_, .int .i64 v6_, .int .i64 v7_, .int .i64 v8_, .int .i64 v9_, .int .i64 v10_, .int .i64 v11_] (0, 0) _ HWL0.out Try.underlying51 rfl HWZ0.out ?_))
      clear HWL0 HWZ0
      refine (ptopair_any v0_ v1_ v2_ v3_ v4_ v5_ v6_ v7_ v8_ v9_ v10_ v11_ _).mono ?_
      rintro e y92 ⟨rfl, hb92⟩
      have hr92_0 := (hb92.block _ (lt_heap hr91_0)).trans hr91_0
      have HU92 := Lib.hid (HU91.out.trans (hb92.mono HU91.out.size))
      clear hr91_0 HU91
      have HI := Lib.hid ((own_keep (w' := y92) HO.out fun q hq => HU92.out.block q (HO.out.lt q hq).2).alloc (.cells #[.int .i64 v0_, .int .i64 v1_, .int .i64 v2_, .int .i64 v3_, .int .i64 v4_, .int .i64 v5_, .int .i64 v6_, .int .i64 v7_, .int .i64 v8_, .int .i64 v9_, .int .i64 v10_, .int .i64 v11_] 43))
      have HX1 := Lib.hid (show ∀ j u, ([.int .i64 v0_, .int .i64 v1_, .int .i64 v2_, .int .i64 v3_, .int .i64 v4_, .int .i64 v5_, .int .i64 v6_, .int .i64 v7_, .int .i64 v8_, .int .i64 v9_, .int .i64 v10_, .int .i64 v11_] : List Value)[j]? = some u → (y92.alloc (.cells #[.int .i64 v0_, .int .i64 v1_, .int .i64 v2_, .int .i64 v3_, .int .i64 v4_, .int .i64 v5_, .int .i64 v6_, .int .i64 v7_, .int .i64 v8_, .int .i64 v9_, .int .i64 v10_, .int .i64 v11_] 43)).cell? ((⟨y92.heap.size, 0, none⟩ : Addr).add j) = some u from fun j u hj => news_row (cs := #[.int .i64 v0_, .int .i64 v1_, .int .i64 v2_, .int .i64 v3_, .int .i64 v4_, .int .i64 v5_, .int .i64 v6_, .int .i64 v7_, .int .i64 v8_, .int .i64 v9_, .int .i64 v10_, .int .i64 v11_]) (heap_alloc_last _ _) j u hj)
      have HX2 := Lib.hid (show ∀ u ∈ ([.int .i64 v0_, .int .i64 v1_, .int .i64 v2_, .int .i64 v3_, .int .i64 v4_, .int .i64 v5_, .int .i64 v6_, .int .i64 v7_, .int .i64 v8_, .int .i64 v9_, .int .i64 v10_, .int .i64 v11_] : List Value), u.oneCell' = true by intro u hu; simp only [List.mem_cons, List.not_mem_nil, or_false] at hu; rcases hu with rfl | rfl | rfl | rfl | rfl | rfl | rfl | rfl | rfl | rfl | rfl | rfl <;> rfl)
      have HB3 := Lib.hid (HB.out.trans (HU92.out.mono hbs))
      have hs3 := HB3.out.size
      go_wp2_with (first | (at_builtin; refine wpList_append_own _ rfl _ _ 29 rfl w.heap.size 43 i0 (.agg #[.int .i64 0, .int .i64 0, .int .i64 0, .int .i64 0, .int .i64 0, .int .i64 0, .int .i64 0, .int .i64 0, .int .i64 0, .int .i64 0, .int .i64 0, .int .i64 0]) 12 96 Try.underlying29 hi hz0 hz1 hz2 rfl (by decide) _ _ _ rfl HI.out ⟨y92.heap.size, 0, none⟩ 1 1 [.int .i64 v0_, .int .i64 v1_, .int .i64 v2_, .int .i64 v3_, .int .i64 v4_, .int .i64 v5_, .int .i64 v6_, .int .i64 v7_, .int .i64 v8_, .int .i64 v9_, .int .i64 v10_, .int .i64 v11_] rfl rfl HX1.out HX2.out ?c3 ?c4 ?c5 ?_))
      case c3 => unfold maxLen; omega
      case c4 => omega
      case c5 => (first | omega | (simp; omega))
      intro v2 w4 hown hgrow _
      have HB4 := Lib.hid ((HB3.out.alloc hs3 _).grown hgrow (by simp; omega) (fun q hq => (HO.out.lt q hq).1))
      rw [← HST.out] at hown
      have HO2 := Lib.hid hown
      clear hown hgrow HST HX1 HX2 HI
      go_wp2_with fail
      go_roundw
      case rel => exact ⟨k + 1, by omega, by go_num, HO2, HB4⟩
      case measure => simp [intOf]; omega
    · have hkm : k = n := by omega
      subst hkm
      have hnl : ¬ (k : Int) < (k : Int) := by omega
      clear hlt' hk
      go_wp2_with fail
      go_ret
      exact ⟨⟨_, rfl, HO.out⟩, HB.out⟩

end Go.Proofs.Ytoppcnkfgmbpfaa.Tr
