/- Trees: how the document splits some shapes. -/
import Derived.Test.YtoppcnkfgmbpfaaE43
import Derived.Test.YtoppcnkfgmbpfaaE37
import Derived.Test.YtoppcnkfgmbpfaaE18
import Derived.Test.YtoppcnkfgmbpfaaE20
import Derived.Deep.MidRow
import Derived.Maps.AppendAt
namespace Go.Proofs.Ytoppcnkfgmbpfaa.Tr
open Go.RowKit Go.Proofs.Ytoppcnkfgmbpfaa Go.Proofs.Ytoppcnkfgmbpfaa.Wa Go.Proofs.Ytoppcnkfgmbpfaa.Ve Go.Proofs.Ytoppcnkfgmbpfaa.Au Go.Proofs.Ytoppcnkfgmbpfaa.Bx
set_option linter.unusedVariables false
set_option linter.unusedSimpArgs false

theorem infoVecR : (Try.prog.info? 47).map (fun i => (i.zero, i.size, i.bytes)) = some (some (.agg #[.int .i64 0, .int .i64 0, .int .i64 0]), 3, 24) := by kernel_rfl

set_option maxHeartbeats 8000000 in
set_option maxRecDepth 100000 in
theorem rsplit_l (PL : Nat → Int) (N : Nat) (l : List Nat) (h2 : 2 ≤ l.length) (hm : l.length ≤ 1000) (hN : N ≤ 1000) (hlt : ∀ j, j < l.length → l.getD j 0 < N) (gp op pc gl ol lc : Nat) (hlc : l.length ≤ lc) (w : World) (hgp : gp < w.heap.size) (hgl : gl < w.heap.size)
    (hp : ∀ j, j < N * 12 → w.cell? ⟨gp, op + j, none⟩ = some (.int .i64 (PL j))) (hl : ∀ j, j < l.length → w.cell? ⟨gl, ol + j, none⟩ = some (.int .i64 ((l.getD j 0 : Nat) : Int))) :
    Calls Try.prog 22 #[.slice (some ⟨gp, op, none⟩) N pc, .slice (some ⟨gl, ol, none⟩) l.length lc] w fun e w' => (∃ va vb, e = .returned (.tuple #[va, vb]) ∧ Lies w' va (splitA PL l) (fun g => g = gl ∨ w.heap.size ≤ g) ∧ Lies w' vb (splitB PL l) (fun g => g = gl ∨ w.heap.size ≤ g)) ∧ Below w.heap.size w w' := by

  obtain ⟨i0, hi, hz0, hz1, hz2⟩ := info_parts infoVecR
  obtain ⟨j0, ji, jz0, jz1, jz2⟩ := info_parts infoInt1
  have HPP := Lib.hid hp
  have HLL := Lib.hid hl
  have HLT := Lib.hid hlt
  have HBT := Lib.hid (fun (a : List Nat) (g o c : Nat) (W : World) (hb : Below w.heap.size w W) (h1 : 1 ≤ a.length) (hm : a.length ≤ 1000) (hlt : ∀ j, j < a.length → a.getD j 0 < N) (hc : a.length ≤ c) (hg : g < W.heap.size) (ha : ∀ j, j < a.length → W.cell? ⟨g, o + j, none⟩ = some (.int .i64 ((a.getD j 0 : Nat) : Int))) => rboth_l PL N a h1 hm hN hlt gp op pc g o c W (Nat.lt_of_lt_of_le hgp hb.size) hg (fun j hj => (hb.cell (p := ⟨gp, op + j, none⟩) hgp).trans (hp j hj)) ha)
  obtain ⟨h, hh⟩ : ∃ h, h = l.length / 2 := ⟨_, rfl⟩
  obtain ⟨d, hd⟩ : ∃ d, lc = h + (d + 1) := ⟨lc - h - 1, by omega⟩
  subst hd
  obtain ⟨r, hr⟩ : ∃ r, l.length = h + (r + 1) := ⟨l.length - h - 1, by omega⟩
  have HH := Lib.hid hh
  have HNN := Lib.hid hr
  have hq1 : ((h : Int) + ((r : Int) + 1)) / 2 = (h : Int) := by omega
  have hs2 : (h : Int) ≤ (h : Int) + ((r : Int) + 1) := by omega
  have hs3 : (h : Int) ≤ (h : Int) + ((d : Int) + 1) := by omega
  have hs4 : (h : Int) + ((r : Int) + 1) ≤ (h : Int) + ((d : Int) + 1) := by omega
  have HL1 := Lib.hid (take_lies w l gl ol (h + (d + 1)) h (by omega) (by omega) hgl (fun g => g = gl ∨ w.heap.size ≤ g) (Or.inl rfl) hl)
  have HL2 := Lib.hid (drop_lies w l gl ol (d + 1) h (by omega) (by omega) hgl (fun g => g = gl ∨ w.heap.size ≤ g) (Or.inl rfl) hl)
  have hrd : r ≤ d := by omega
  have hh1 : 1 ≤ h := by omega
  have hm1 : h + (r + 1) ≤ 1000 := by omega
  rw [hr]
  rw [hr, show h + (r + 1) - h = r + 1 by omega] at HL2
  clear hh hr hlc h2 hm hl hp hlt
  go_enter Try.func22, Try.ntmps22
  go_upto_region 3 with fail
  go_loopw [6, 7] (fun v i wr => ∃ k : Nat, k ≤ h + (r + 1) ∧ i = .int .i64 k ∧ Hid (wr.ownsRow w.heap.size 47 3 v k (flat3m (mids PL l) k)) ∧ Hid (Below w.heap.size w wr)) (fun _ i _ => h + (r + 1) - (intOf i).toNat)
  case atStart => exact ⟨0, by omega, rfl, Lib.hid (by simpa [flat3m] using World.ownsRow_nil _ _ _ _), Lib.hid (Below.refl _ _)⟩
  case round =>
    obtain ⟨k, hk, rfl, HO, HB⟩ := hrel
    have hbs := HB.out.size
    by_cases hlt' : k < h + (r + 1)
    · have hki : (k : Int) < (h : Int) + ((r : Int) + 1) := by omega
      obtain ⟨x, hx⟩ : ∃ x, x = l.getD k 0 := ⟨_, rfl⟩
      have hxN : x < N := by rw [hx]; exact HLT.out k (by have := HNN.out; omega)
      have hxi : (x : Int) < N := by omega
      have cl : wr.cell? ⟨gl, ol + k, none⟩ = some (.int .i64 (x : Int)) := by rw [hx]; exact (HB.out.cell (p := ⟨gl, ol + k, none⟩) hgl).trans (HLL.out k (by have := HNN.out; omega))
      have HRG := Lib.hid (show wr.rangeAt gp (op + x * 12) [.int .i64 (PL (x * 12)), .int .i64 (PL (x * 12 + 1)), .int .i64 (PL (x * 12 + 2)), .int .i64 (PL (x * 12 + 3)), .int .i64 (PL (x * 12 + 4)), .int .i64 (PL (x * 12 + 5)), .int .i64 (PL (x * 12 + 6)), .int .i64 (PL (x * 12 + 7)), .int .i64 (PL (x * 12 + 8)), .int .i64 (PL (x * 12 + 9)), .int .i64 (PL (x * 12 + 10)), .int .i64 (PL (x * 12 + 11))] from fun j u hj => by
        rw [show op + x * 12 + j = op + (x * 12 + j) by omega]
        have a1 := fun (h : j < 12) => (HB.out.cell (p := ⟨gp, op + (x * 12 + j), none⟩) hgp).trans (HPP.out (x * 12 + j) (by omega))
        match j, hj with
        | 0, hj => exact (a1 (by omega)).trans (by simpa using hj)
        | 1, hj => exact (a1 (by omega)).trans (by simpa using hj)
        | 2, hj => exact (a1 (by omega)).trans (by simpa using hj)
        | 3, hj => exact (a1 (by omega)).trans (by simpa using hj)
        | 4, hj => exact (a1 (by omega)).trans (by simpa using hj)
        | 5, hj => exact (a1 (by omega)).trans (by simpa using hj)
        | 6, hj => exact (a1 (by omega)).trans (by simpa using hj)
        | 7, hj => exact (a1 (by omega)).trans (by simpa using hj)
        | 8, hj => exact (a1 (by omega)).trans (by simpa using hj)
        | 9, hj => exact (a1 (by omega)).trans (by simpa using hj)
        | 10, hj => exact (a1 (by omega)).trans (by simpa using hj)
        | 11, hj => exact (a1 (by omega)).trans (by simpa using hj)
        | j + 12, hj => simp at hj)
      obtain ⟨e0_, he0_⟩ : ∃ t, t = PL (x * 12) := ⟨_, rfl⟩
      obtain ⟨e1_, he1_⟩ : ∃ t, t = PL (x * 12 + 1) := ⟨_, rfl⟩
      obtain ⟨e2_, he2_⟩ : ∃ t, t = PL (x * 12 + 2) := ⟨_, rfl⟩
      obtain ⟨e3_, he3_⟩ : ∃ t, t = PL (x * 12 + 3) := ⟨_, rfl⟩
      obtain ⟨e4_, he4_⟩ : ∃ t, t = PL (x * 12 + 4) := ⟨_, rfl⟩
      obtain ⟨e5_, he5_⟩ : ∃ t, t = PL (x * 12 + 5) := ⟨_, rfl⟩
      obtain ⟨e6_, he6_⟩ : ∃ t, t = PL (x * 12 + 6) := ⟨_, rfl⟩
      obtain ⟨e7_, he7_⟩ : ∃ t, t = PL (x * 12 + 7) := ⟨_, rfl⟩
      obtain ⟨e8_, he8_⟩ : ∃ t, t = PL (x * 12 + 8) := ⟨_, rfl⟩
      obtain ⟨e9_, he9_⟩ : ∃ t, t = PL (x * 12 + 9) := ⟨_, rfl⟩
      obtain ⟨e10_, he10_⟩ : ∃ t, t = PL (x * 12 + 10) := ⟨_, rfl⟩
      obtain ⟨e11_, he11_⟩ : ∃ t, t = PL (x * 12 + 11) := ⟨_, rfl⟩
      obtain ⟨q0, hq0⟩ : ∃ q, q = midN PL x 0 := ⟨_, rfl⟩
      obtain ⟨q1, hq1⟩ : ∃ q, q = midN PL x 1 := ⟨_, rfl⟩
      obtain ⟨q2, hq2⟩ : ∃ q, q = midN PL x 2 := ⟨_, rfl⟩
      have HMD := Lib.hid (fun (W : World) => show Calls Try.prog 30 #[.agg #[.int .i64 e0_, .int .i64 e1_, .int .i64 e2_, .int .i64 e3_, .int .i64 e4_, .int .i64 e5_, .int .i64 e6_, .int .i64 e7_, .int .i64 e8_, .int .i64 e9_, .int .i64 e10_, .int .i64 e11_]] W fun e w' => e = .returned (.agg #[.int .i64 q0, .int .i64 q1, .int .i64 q2]) ∧ Below W.heap.size W w' from by rw [hq0, hq1, hq2]; rw [he0_, he1_, he2_, he3_, he4_, he5_, he6_, he7_, he8_, he9_, he10_, he11_]; exact rmiddle_any _ _ _ _ _ _ _ _ _ _ _ _ W)
      have HST := Lib.hid (show flat3m (mids PL l) (k + 1) = flat3m (mids PL l) k ++ [.int .i64 q0, .int .i64 q1, .int .i64 q2] by
        rw [flat3m_step, show mids PL l (k * 3) = midN PL (l.getD k 0) 0 from mids_at PL l k 0 (by omega), mids_at PL l k 1 (by omega), mids_at PL l k 2 (by omega), ← hx, ← hq0, ← hq1, ← hq2])
      rw [← he0_, ← he1_, ← he2_, ← he3_, ← he4_, ← he5_, ← he6_, ← he7_, ← he8_, ← he9_, ← he10_, ← he11_] at HRG
      clear hx hq0 hq1 hq2 he0_ he1_ he2_ he3_ he4_ he5_ he6_ he7_ he8_ he9_ he10_ he11_
      go_wp2_with (first | (with_reducible refine wpList_load_mid rfl 51 (.tmp 32) rfl gp (op + x * 12) rfl [.int .i64 e0_, .int .i64 e1_, .int .i64 e2_, .int .i64 e3_, .int .i64 e4_, .int .i64 e5_, .int .i64 e6_, .int .i64 e7_, .int .i64 e8_, .int .i64 e9_, .int .i64 e10_, .int .i64 e11_] _ HRG.out Try.underlying51 rfl (by kernel_rfl) ?_))
      refine (HMD.out _).mono ?_
      rintro e w3 ⟨rfl, hb23⟩
      have HI := Lib.hid ((own_keep (w' := w3) HO.out fun q hq => hb23.block q (HO.out.lt q hq).2).alloc (.cells #[.int .i64 q0, .int .i64 q1, .int .i64 q2] 47))
      have HX1 := Lib.hid (show ∀ j u, ([.int .i64 q0, .int .i64 q1, .int .i64 q2] : List Value)[j]? = some u → (w3.alloc (.cells #[.int .i64 q0, .int .i64 q1, .int .i64 q2] 47)).cell? ((⟨w3.heap.size, 0, none⟩ : Addr).add j) = some u from fun j u hj => news_row (cs := #[.int .i64 q0, .int .i64 q1, .int .i64 q2]) (heap_alloc_last _ _) j u hj)
      have HX2 := Lib.hid (show ∀ u ∈ ([.int .i64 q0, .int .i64 q1, .int .i64 q2] : List Value), u.oneCell' = true by intro u hu; simp only [List.mem_cons, List.not_mem_nil, or_false] at hu; rcases hu with rfl | rfl | rfl <;> rfl)
      have HB3 := Lib.hid (HB.out.trans (hb23.mono hbs))
      have hs3 := HB3.out.size
      clear cl
      go_wp2_with (first | (at_builtin; refine wpList_append_own _ rfl _ _ 80 rfl w.heap.size 47 i0 (.agg #[.int .i64 0, .int .i64 0, .int .i64 0]) 3 24 Try.underlying80 hi hz0 hz1 hz2 rfl (by decide) _ _ _ rfl HI.out ⟨w3.heap.size, 0, none⟩ 1 1 [.int .i64 q0, .int .i64 q1, .int .i64 q2] rfl rfl HX1.out HX2.out ?c3 ?c4 ?c5 ?_))
      case c3 => unfold maxLen; omega
      case c4 => omega
      case c5 => (first | omega | (simp; omega))
      intro v2 w4 hown hgrow _
      have HB2 := Lib.hid ((HB3.out.alloc hs3 _).grown hgrow (by simp; omega) (fun q hq => (HO.out.lt q hq).1))
      rw [← HST.out] at hown
      have HO2 := Lib.hid hown
      clear hown hgrow HST HX1 HX2 HI hb23
      go_wp2_with fail
      go_roundw
      case rel => exact ⟨k + 1, by omega, by go_num, HO2, HB2⟩
      case measure => simp [intOf]; omega
    · have hkm : k = h + (r + 1) := by omega
      subst hkm
      have hnl : ¬ (h : Int) + ((r : Int) + 1) < (h : Int) + ((r : Int) + 1) := by omega
      clear hlt' hk
      go_upto_region 6 with fail
      obtain ⟨y5, rfl⟩ : ∃ y : World, y = wr := ⟨_, rfl⟩
      rcases HO.out.2 with ⟨hv, h0⟩ | ⟨gb, cap, cur, hv, hgb, hcur, hncap, -, -, htake⟩
      · omega
      subst hv
      have HCU := Lib.hid (show ∀ j, j < (h + (r + 1)) * 3 → cur[j]? = some (.int .i64 (mids PL l j)) from fun j hj => by
        have a := HO.out.cellAt j hj
        rw [cell_of_row _ _ j _ _ _ hcur] at a
        exact a.trans (flat3m_at _ _ _ hj))
      have HU5 := Lib.hid HB.out
      have hr5_0 := hcur
      have hs5 := HU5.out.size
      have hgb5 := lt_heap hcur
      clear hcur htake
      obtain ⟨b0_, hb0_⟩ : ∃ b, b = lo (mids PL l) 0 (h + (r + 1)) := ⟨_, rfl⟩
      obtain ⟨b1_, hb1_⟩ : ∃ b, b = lo (mids PL l) 1 (h + (r + 1)) := ⟨_, rfl⟩
      obtain ⟨b2_, hb2_⟩ : ∃ b, b = lo (mids PL l) 2 (h + (r + 1)) := ⟨_, rfl⟩
      obtain ⟨b3_, hb3_⟩ : ∃ b, b = hig (mids PL l) 0 (h + (r + 1)) := ⟨_, rfl⟩
      obtain ⟨b4_, hb4_⟩ : ∃ b, b = hig (mids PL l) 1 (h + (r + 1)) := ⟨_, rfl⟩
      obtain ⟨b5_, hb5_⟩ : ∃ b, b = hig (mids PL l) 2 (h + (r + 1)) := ⟨_, rfl⟩
      obtain ⟨s0_, hs0_⟩ : ∃ b, b = Pl.sub b3_ b0_ := ⟨_, rfl⟩
      obtain ⟨s1_, hs1_⟩ : ∃ b, b = Pl.sub b4_ b1_ := ⟨_, rfl⟩
      obtain ⟨s2_, hs2_⟩ : ∃ b, b = Pl.sub b5_ b2_ := ⟨_, rfl⟩
      have hlw : ∀ i, lowM PL l i = lo (mids PL l) i (h + (r + 1)) := fun i => by unfold lowM; rw [HNN.out]
      have hwd : ∀ i, wideM PL l i = Pl.sub (hig (mids PL l) i (h + (r + 1))) (lo (mids PL l) i (h + (r + 1))) := fun i => by unfold wideM; rw [HNN.out]
      have hax : ((axisN PL l : Nat) : Int) = widest (Pl.amount s0_) (Pl.amount s1_) (Pl.amount s2_) := by rw [axis_int, hwd, hwd, hwd, hs0_, hs1_, hs2_, hb0_, hb1_, hb2_, hb3_, hb4_, hb5_]
      have hl3 := axis_lt PL l
      have HFL := Lib.hid (split_flat PL l)
      obtain ⟨ax, hxx⟩ : ∃ a, a = axisN PL l := ⟨_, rfl⟩
      rw [← hxx] at hax hl3 HFL
      obtain ⟨low, hlow⟩ : ∃ a, a = lowM PL l ax := ⟨_, rfl⟩
      obtain ⟨wide, hwide⟩ : ∃ a, a = wideM PL l ax := ⟨_, rfl⟩
      rw [← hwide] at HFL
      have HBC := Lib.hid (show (#[.int .i64 b0_, .int .i64 b1_, .int .i64 b2_, .int .i64 b3_, .int .i64 b4_, .int .i64 b5_] : Array Value)[ax]? = some (.int .i64 low) from by rw [hlow, hlw]; match ax, hl3 with | 0, _ => rw [hb0_]; rfl | 1, _ => rw [hb1_]; rfl | 2, _ => rw [hb2_]; rfl)
      have HSC := Lib.hid (show (#[.int .i64 s0_, .int .i64 s1_, .int .i64 s2_] : Array Value)[ax]? = some (.int .i64 wide) from by rw [hwide, hwd]; match ax, hl3 with | 0, _ => rw [hs0_, hb0_, hb3_]; rfl | 1, _ => rw [hs1_, hb1_, hb4_]; rfl | 2, _ => rw [hs2_, hb2_, hb5_]; rfl)
      have HSZ := Lib.hid (fun (W : World) => show Calls Try.prog 32 #[.agg #[.int .i64 b3_, .int .i64 b4_, .int .i64 b5_], .agg #[.int .i64 b0_, .int .i64 b1_, .int .i64 b2_]] W fun e w' => e = .returned (.agg #[.int .i64 s0_, .int .i64 s1_, .int .i64 s2_]) ∧ Below W.heap.size W w' from by rw [hs0_, hs1_, hs2_]; exact rsub_any _ _ _ _ _ _ W)
      have HWI := Lib.hid (fun (W : World) => show Calls Try.prog 33 #[.agg #[.int .i64 s0_, .int .i64 s1_, .int .i64 s2_]] W fun e w' => e = .returned (.int .i64 (ax : Int)) ∧ Below W.heap.size W w' from by rw [hax]; exact rwidest_any _ _ _ W)
      have HOF := Lib.hid (fun (W : World) (hg : gb < W.heap.size) (hW : ∀ j, j < (h + (r + 1)) * 3 → W.cell? ⟨gb, j, none⟩ = some (.int .i64 (mids PL l j))) => show Calls Try.prog 31 #[.slice (some ⟨gb, 0, none⟩) (h + (r + 1)) cap] W fun e w' => e = .returned (.agg #[.int .i64 b0_, .int .i64 b1_, .int .i64 b2_, .int .i64 b3_, .int .i64 b4_, .int .i64 b5_]) ∧ Below W.heap.size W w' from by rw [hb0_, hb1_, hb2_, hb3_, hb4_, hb5_]; exact rof_row gb 0 (h + (r + 1)) cap (mids PL l) (by omega) (by omega) W ⟨hg, fun j hj => by rw [Nat.zero_add]; exact hW j hj⟩)
      have HPT := Lib.hid (fun k (W : World) => show Calls Try.prog 34 #[.int .i64 (midN PL (l.getD k 0) ax), .int .i64 low, .int .i64 wide] W fun e w' => e = .returned (.int .i64 (partOf PL l k)) ∧ W = w' from by rw [show partOf PL l k = part (midN PL (l.getD k 0) ax) low wide from by unfold partOf; rw [← hxx, hlow, hwide]]; exact rpart_any _ _ _ W)
      have hax2 : (ax : Int) < 3 := by omega
      clear hb0_ hb1_ hb2_ hb3_ hb4_ hb5_ hs0_ hs1_ hs2_ hlw hwd hax hxx hlow hwide
      go_wp2_with fail
      refine (HOF.out _ hgb5 (fun j hj => (cell_of_row _ _ j _ _ _ hr5_0).trans (HCU.out j hj))).mono ?_
      rintro e y6 ⟨rfl, hb6⟩
      have hr6_0 := (hb6.block _ hgb5).trans hr5_0
      have HU6 := Lib.hid (HU5.out.trans (hb6.mono HU5.out.size))
      clear hr5_0 HU5 hb6
      have HA := Lib.hid (heap_alloc_last y6 (.cells #[.int .i64 0, .int .i64 0, .int .i64 0, .int .i64 0, .int .i64 0, .int .i64 0] 49))
      have hHi := Lib.hid (show (Try.prog.info? 49).map (·.size) = some (#[.int .i64 b0_, .int .i64 b1_, .int .i64 b2_, .int .i64 b3_, .int .i64 b4_, .int .i64 b5_] : Array Value).size by kernel_rfl)
      have hHz := Lib.hid (show (#[.int .i64 0, .int .i64 0, .int .i64 0, .int .i64 0, .int .i64 0, .int .i64 0] : Array Value).size = (#[.int .i64 b0_, .int .i64 b1_, .int .i64 b2_, .int .i64 b3_, .int .i64 b4_, .int .i64 b5_] : Array Value).size from rfl)
      have hHo := Lib.hid (show (#[.int .i64 b0_, .int .i64 b1_, .int .i64 b2_, .int .i64 b3_, .int .i64 b4_, .int .i64 b5_] : Array Value).all (·.oneCell') = true by simp [Value.oneCell'])
      go_upto_region 7 with (refine Au.wpList_store_row rfl 49 (.tmp 8) (.tmp 38) rfl (y6.alloc (.cells #[.int .i64 0, .int .i64 0, .int .i64 0, .int .i64 0, .int .i64 0, .int .i64 0] 49)) #[.int .i64 0, .int .i64 0, .int .i64 0, .int .i64 0, .int .i64 0, .int .i64 0] #[.int .i64 b0_, .int .i64 b1_, .int .i64 b2_, .int .i64 b3_, .int .i64 b4_, .int .i64 b5_] (y6.heap.size) 49 HA.out rfl rfl hHi.out hHz.out hHo.out ?_)
      clear hHi hHz hHo
      have hN := setRow_heap _ (y6.heap.size) _ #[.int .i64 b0_, .int .i64 b1_, .int .i64 b2_, .int .i64 b3_, .int .i64 b4_, .int .i64 b5_] _ _ HA.out
      clear HA
      have hsz := HU6.out.size
      have hb := below_n1 y6 (.cells #[.int .i64 0, .int .i64 0, .int .i64 0, .int .i64 0, .int .i64 0, .int .i64 0] 49)
      have HUx := below_setRow (g := y6.heap.size) (HU6.out.trans (hb.mono HU6.out.size)) (by omega) #[.int .i64 b0_, .int .i64 b1_, .int .i64 b2_, .int .i64 b3_, .int .i64 b4_, .int .i64 b5_]
      have hO : ∀ kk, kk < y6.heap.size → ((y6.alloc (.cells #[.int .i64 0, .int .i64 0, .int .i64 0, .int .i64 0, .int .i64 0, .int .i64 0] 49)).setRow (y6.heap.size) #[.int .i64 b0_, .int .i64 b1_, .int .i64 b2_, .int .i64 b3_, .int .i64 b4_, .int .i64 b5_]).heap[kk]? = y6.heap[kk]? := fun kk hk => (setRow_other _ _ _ _ (by omega)).trans (hb.block _ hk)
      obtain ⟨y7, hy7⟩ : ∃ y, (y6.alloc (.cells #[.int .i64 0, .int .i64 0, .int .i64 0, .int .i64 0, .int .i64 0, .int .i64 0] 49)).setRow (y6.heap.size) #[.int .i64 b0_, .int .i64 b1_, .int .i64 b2_, .int .i64 b3_, .int .i64 b4_, .int .i64 b5_] = y := ⟨_, rfl⟩
      have hs7 : y7.heap.size = y6.heap.size + 1 := by rw [← hy7]; simp [World.setRow]
      rw [hy7] at hN HUx hO ⊢
      clear hy7 hsz hb
      have HU7 := Lib.hid HUx
      clear HUx
      have hl7_0 := lt_heap hr6_0
      have hr7_0 := (hO _ hl7_0).trans hr6_0
      have hr7_1 := hN
      clear hN hO
      clear hr6_0 HU6
      have c1_0 := cell_of_row _ _ 0 _ _ _ hr7_1
      have c1_1 := cell_of_row _ _ 1 _ _ _ hr7_1
      have c1_2 := cell_of_row _ _ 2 _ _ _ hr7_1
      have c1_3 := cell_of_row _ _ 3 _ _ _ hr7_1
      have c1_4 := cell_of_row _ _ 4 _ _ _ hr7_1
      have c1_5 := cell_of_row _ _ 5 _ _ _ hr7_1
      simp at c1_0 c1_1 c1_2 c1_3 c1_4 c1_5
      go_wp2_with fail
      refine (HSZ.out _).mono ?_
      rintro e y8 ⟨rfl, hb8⟩
      clear c1_0 c1_1 c1_2 c1_3 c1_4 c1_5
      have hr8_0 := (hb8.block _ (lt_heap hr7_0)).trans hr7_0
      have hr8_1 := (hb8.block _ (lt_heap hr7_1)).trans hr7_1
      have HU8 := Lib.hid (HU7.out.trans (hb8.mono HU7.out.size))
      clear hr7_0 hr7_1 HU7
      have HA := Lib.hid (heap_alloc_last y8 (.cells #[.int .i64 0, .int .i64 0, .int .i64 0] 47))
      have hHi := Lib.hid (show (Try.prog.info? 47).map (·.size) = some (#[.int .i64 s0_, .int .i64 s1_, .int .i64 s2_] : Array Value).size by kernel_rfl)
      have hHz := Lib.hid (show (#[.int .i64 0, .int .i64 0, .int .i64 0] : Array Value).size = (#[.int .i64 s0_, .int .i64 s1_, .int .i64 s2_] : Array Value).size from rfl)
      have hHo := Lib.hid (show (#[.int .i64 s0_, .int .i64 s1_, .int .i64 s2_] : Array Value).all (·.oneCell') = true by simp [Value.oneCell'])
      go_upto_region 8 with (refine Au.wpList_store_row rfl 47 (.tmp 9) (.tmp 43) rfl (y8.alloc (.cells #[.int .i64 0, .int .i64 0, .int .i64 0] 47)) #[.int .i64 0, .int .i64 0, .int .i64 0] #[.int .i64 s0_, .int .i64 s1_, .int .i64 s2_] (y8.heap.size) 47 HA.out rfl rfl hHi.out hHz.out hHo.out ?_)
      clear hHi hHz hHo
      have hN := setRow_heap _ (y8.heap.size) _ #[.int .i64 s0_, .int .i64 s1_, .int .i64 s2_] _ _ HA.out
      clear HA
      have hsz := HU8.out.size
      have hb := below_n1 y8 (.cells #[.int .i64 0, .int .i64 0, .int .i64 0] 47)
      have HUx := below_setRow (g := y8.heap.size) (HU8.out.trans (hb.mono HU8.out.size)) (by omega) #[.int .i64 s0_, .int .i64 s1_, .int .i64 s2_]
      have hO : ∀ kk, kk < y8.heap.size → ((y8.alloc (.cells #[.int .i64 0, .int .i64 0, .int .i64 0] 47)).setRow (y8.heap.size) #[.int .i64 s0_, .int .i64 s1_, .int .i64 s2_]).heap[kk]? = y8.heap[kk]? := fun kk hk => (setRow_other _ _ _ _ (by omega)).trans (hb.block _ hk)
      obtain ⟨y9, hy9⟩ : ∃ y, (y8.alloc (.cells #[.int .i64 0, .int .i64 0, .int .i64 0] 47)).setRow (y8.heap.size) #[.int .i64 s0_, .int .i64 s1_, .int .i64 s2_] = y := ⟨_, rfl⟩
      have hs9 : y9.heap.size = y8.heap.size + 1 := by rw [← hy9]; simp [World.setRow]
      rw [hy9] at hN HUx hO ⊢
      clear hy9 hsz hb
      have HU9 := Lib.hid HUx
      clear HUx
      have hl9_0 := lt_heap hr8_0
      have hr9_0 := (hO _ hl9_0).trans hr8_0
      have hl9_1 := lt_heap hr8_1
      have hr9_1 := (hO _ hl9_1).trans hr8_1
      have hr9_2 := hN
      clear hN hO
      clear hr8_0 hr8_1 HU8
      have c2_0 := cell_of_row _ _ 0 _ _ _ hr9_2
      have c2_1 := cell_of_row _ _ 1 _ _ _ hr9_2
      have c2_2 := cell_of_row _ _ 2 _ _ _ hr9_2
      simp at c2_0 c2_1 c2_2
      go_wp2_with fail
      refine (HWI.out _).mono ?_
      rintro e y10 ⟨rfl, hb10⟩
      clear c2_0 c2_1 c2_2
      have hr10_0 := (hb10.block _ (lt_heap hr9_0)).trans hr9_0
      have hr10_1 := (hb10.block _ (lt_heap hr9_1)).trans hr9_1
      have hr10_2 := (hb10.block _ (lt_heap hr9_2)).trans hr9_2
      have HU10 := Lib.hid (HU9.out.trans (hb10.mono HU9.out.size))
      clear hr9_0 hr9_1 hr9_2 HU9
      have cw := (cell_of_row _ _ ax _ _ _ hr10_2).trans HSC.out
      by_cases hw : wide ≤ 0
      · go_upto_region 11 with fail
        clear cw
        refine wp_region_held_drew (S := fun y => y.heap[gb]? = some (.cells cur 47 (0, 0))) (by kernel_rfl) (hr10_0) (fun hS0 => ?_)
        obtain ⟨y11, hy11⟩ : ∃ y, y10.drew = y := ⟨_, rfl⟩
        have HU11 := Lib.hid (show Below w.heap.size w y11 by rw [← hy11]; exact HU10.out.drew)
        have hr11_0 : y11.heap[gb]? = some (.cells cur 47 (0, 0)) := by rw [← hy11]; exact hr10_0
        have hr11_1 : y11.heap[y6.heap.size]? = some (.cells #[.int .i64 b0_, .int .i64 b1_, .int .i64 b2_, .int .i64 b3_, .int .i64 b4_, .int .i64 b5_] 49 (0, 0)) := by rw [← hy11]; exact hr10_1
        have hr11_2 : y11.heap[y8.heap.size]? = some (.cells #[.int .i64 s0_, .int .i64 s1_, .int .i64 s2_] 47 (0, 0)) := by rw [← hy11]; exact hr10_2
        rw [hy11] at hS0 ⊢
        clear hy11
        refine wpAnyH_take (i := 0) (v := ?_) rfl (by kernel_rfl) (by kernel_rfl) (by kernel_rfl) (fun _ _ _ h => h) (Or.inl ⟨by kernel_rfl, by (intro wz hSz; go_simp; try with_reducible rfl)⟩) hS0 ?_
        go_simp
        refine wpAnyH_take (i := 1) (v := ?_) rfl (by kernel_rfl) (by kernel_rfl) (by kernel_rfl) (fun _ _ _ h => h) (Or.inl ⟨by kernel_rfl, by (intro wz hSz; go_simp; try with_reducible rfl)⟩) hS0 ?_
        go_simp
        refine wpAnyH_take (i := 2) (v := ?_) rfl (by kernel_rfl) (by kernel_rfl) (by kernel_rfl) (fun _ _ _ h => h) (Or.inl ⟨by kernel_rfl, by (intro wz hSz; go_simp; try with_reducible rfl)⟩) hS0 ?_
        go_simp
        refine wpAnyH_take (i := 3) (v := ?_) rfl (by kernel_rfl) (by kernel_rfl) (by kernel_rfl) (fun _ _ _ h => h) (Or.inl ⟨by kernel_rfl, by (intro wz hSz; go_simp; try with_reducible rfl)⟩) hS0 ?_
        go_simp
        refine wpAnyH_take (i := 4) (v := ?_) rfl (by kernel_rfl) (by kernel_rfl) (by kernel_rfl) (fun _ _ _ h => h) (Or.inl ⟨by kernel_rfl, by (intro wz hSz; go_simp; try with_reducible rfl)⟩) hS0 ?_
        go_simp
        refine wpAnyH_take (i := 5) (v := ?_) rfl (by kernel_rfl) (by kernel_rfl) (by kernel_rfl) (fun _ _ _ h => h) (Or.inl ⟨by kernel_rfl, by (intro wz hSz; go_simp; try with_reducible rfl)⟩) hS0 ?_
        go_simp
        refine wpAnyH_take (i := 6) (v := ?_) rfl (by kernel_rfl) (by kernel_rfl) (by kernel_rfl) (fun _ _ _ h => h) (Or.inl ⟨by kernel_rfl, by (intro wz hSz; go_simp; try with_reducible rfl)⟩) hS0 ?_
        go_simp
        refine wpAnyH_take (i := 7) (v := ?_) rfl (by kernel_rfl) (by kernel_rfl) (by kernel_rfl) (fun _ _ _ h => h) (Or.inl ⟨by kernel_rfl, by (intro wz hSz; go_simp; try with_reducible rfl)⟩) hS0 ?_
        go_simp
        refine wpAnyH_done (by kernel_rfl) ?_ _
        go_wp2_with fail
        go_ret2
        have hf := HFL.out hw
        rw [hf.1, hf.2, ← HH.out]
        exact ⟨⟨_, _, rfl, HL1.out.on HU11.out, HL2.out.on HU11.out⟩, HU11.out⟩
      · go_upto_region 15 with fail
        simp only [hq1]
        clear cw
        obtain ⟨bb, hbb⟩ : ∃ t, t = y6.heap.size := ⟨_, rfl⟩
        obtain ⟨vb_, hvb⟩ : ∃ t, t = y8.heap.size := ⟨_, rfl⟩
        rw [← hbb] at hr10_1
        rw [← hvb] at hr10_2
        rw [← hbb, ← hvb]
        obtain ⟨z, rfl⟩ : ∃ z : World, z = y10 := ⟨_, rfl⟩
        have HRM := Lib.hid hr10_0
        have HRB := Lib.hid hr10_1
        have HRV := Lib.hid hr10_2
        have hm0 := lt_heap hr10_0
        have hm1 := lt_heap hr10_1
        have hm2 := lt_heap hr10_2
        have HZ := HU10
        have hsz := HZ.out.size
        clear hr10_0 hr10_1 hr10_2 HU10 hbb hvb
        obtain ⟨pt, hpt⟩ : ∃ p, p = partOf PL l := ⟨_, rfl⟩
        rw [← hpt] at HPT
        have HPTE := Lib.hid hpt
        clear hpt
        have HLA := Lib.hid (HL1.out.on HZ.out)
        have HLB := Lib.hid (HL2.out.on HZ.out)
        go_loopw [12, 13, 14, 15, 16, 17, 18, 19] (fun s12 s13 s14 s15 s16 s17 s18 s19 wr => ∃ k : Nat, k ≤ 7 ∧ s15 = .int .i64 ((k : Int) + 1) ∧ s14 = .int .i64 (cutsN PL l pt k).least ∧ Hid (((cutsN PL l pt k).found = false ∧ s12 = .slice none 0 0) ∨ ((cutsN PL l pt k).found = true ∧ Lies wr s12 (cutsN PL l pt k).first (fun g => g = gl ∨ w.heap.size ≤ g) ∧ Lies wr s13 (cutsN PL l pt k).others (fun g => g = gl ∨ w.heap.size ≤ g))) ∧ Hid (Below z.heap.size z wr)) (fun _ _ _ s15 _ _ _ _ _ => 8 - (intOf s15).toNat)
        case atStart => exact ⟨0, by omega, rfl, rfl, Lib.hid (Or.inl ⟨rfl, rfl⟩), Lib.hid (Below.refl _ _)⟩
        case round =>
          obtain ⟨k, hk, rfl, rfl, HD, HW⟩ := hrel
          have hws := HW.out.size
          by_cases hk7 : k < 7
          · have hki : (k : Int) + 1 < 8 := by omega
            have HWW := Lib.hid (HZ.out.trans (HW.out.mono hsz))
            obtain ⟨cut, hcut⟩ : ∃ c, c = ((k + 1 : Nat) : Int) := ⟨_, rfl⟩
            have hcut2 : (k : Int) + 1 = cut := by omega
            have hcut8 : cut < 8 := by omega
            have hcut1 : 1 ≤ cut := by omega
            rw [hcut2]
            have HCUT := Lib.hid hcut
            have HCUT2 := Lib.hid hcut2
            clear hcut hcut2 hki
            obtain ⟨ls, hls⟩ : ∃ b, b = (cutsN PL l pt k).least := ⟨_, rfl⟩
            rw [← hls]
            have HLS := Lib.hid hls
            clear hls
            go_upto_region 19 with fail
            obtain ⟨wo, rfl⟩ : ∃ y : World, y = wr := ⟨_, rfl⟩
            go_loopw [16, 17, 18] (fun va vb i wi => ∃ q : Nat, q ≤ h + (r + 1) ∧ i = .int .i64 q ∧ Hid (wi.ownsRow wo.heap.size 3 1 va (sel pt cut l q).1.length (nv (sel pt cut l q).1)) ∧ Hid (wi.ownsRow wo.heap.size 3 1 vb (sel pt cut l q).2.length (nv (sel pt cut l q).2)) ∧ Hid (Apart va vb) ∧ Hid (Below wo.heap.size wo wi)) (fun _ _ i _ => h + (r + 1) - (intOf i).toNat)
            case atStart => exact ⟨0, by omega, rfl, Lib.hid (World.ownsRow_nil _ _ _ _), Lib.hid (World.ownsRow_nil _ _ _ _), Lib.hid (fun q h => by cases h), Lib.hid (Below.refl _ _)⟩
            case round =>
              obtain ⟨q, hq, rfl, HA, HC, HDD, HB⟩ := hrel
              have hbs2 := HB.out.size
              have hsl := sel_len pt cut l q
              by_cases hlt' : q < h + (r + 1)
              · have hqi : (q : Int) < (h : Int) + ((r : Int) + 1) := by omega
                obtain ⟨x, hx⟩ : ∃ x, x = l.getD q 0 := ⟨_, rfl⟩
                have HBI := Lib.hid (HWW.out.trans (HB.out.mono HWW.out.size))
                have cl : wr.cell? ⟨gl, ol + q, none⟩ = some (.int .i64 (x : Int)) := by rw [hx]; exact (HBI.out.cell (p := ⟨gl, ol + q, none⟩) hgl).trans (HLL.out q (by have := HNN.out; omega))
                have HX := Lib.hid hx
                have HMQ := Lib.hid ((mids_at PL l q ax hl3).symm)
                have HCX := Lib.hid (HCU.out (q * 3 + ax) (by omega))
                rw [← HMQ.out] at HCX
                have HPQ := Lib.hid (HPT.out q)
                obtain ⟨mq, hmq⟩ : ∃ t, t = midN PL (l.getD q 0) ax := ⟨_, rfl⟩
                obtain ⟨pq, hpq⟩ : ∃ t, t = pt q := ⟨_, rfl⟩
                rw [← hmq] at HPQ HCX
                rw [← hpq] at HPQ
                have HPE := Lib.hid hpq
                have hk0 : wr.heap[gb]? = some (.cells cur 47 (0, 0)) := (HB.out.block gb (by omega)).trans ((HW.out.block gb hm0).trans HRM.out)
                have hk1 : wr.heap[bb]? = some (.cells #[.int .i64 b0_, .int .i64 b1_, .int .i64 b2_, .int .i64 b3_, .int .i64 b4_, .int .i64 b5_] 49 (0, 0)) := (HB.out.block bb (by omega)).trans ((HW.out.block bb hm1).trans HRB.out)
                have hk2 : wr.heap[vb_]? = some (.cells #[.int .i64 s0_, .int .i64 s1_, .int .i64 s2_] 47 (0, 0)) := (HB.out.block vb_ (by omega)).trans ((HW.out.block vb_ hm2).trans HRV.out)
                obtain ⟨y70, rfl⟩ : ∃ y : World, y = wr := ⟨_, rfl⟩
                have hr70_0 := hk0
                have hr70_1 := hk1
                have hr70_2 := hk2
                have HU70 := Lib.hid (Below.refl y70.heap.size y70)
                have hla : (sel pt cut l q).1.length ≤ 1000 := by omega
                have hlb : (sel pt cut l q).2.length ≤ 1000 := by omega
                obtain ⟨A, hA⟩ : ∃ A, A = (sel pt cut l q).1 := ⟨_, rfl⟩
                obtain ⟨C, hC⟩ : ∃ C, C = (sel pt cut l q).2 := ⟨_, rfl⟩
                rw [← hA] at HA hla
                rw [← hC] at HC hlb
                have HAe := Lib.hid hA
                have HCe := Lib.hid hC
                clear hA hC hsl hx hmq hpq hk0 hk1 hk2
                go_upto_region 21 with fail
                have CL := Lib.hid cl
                clear cl
                refine wp_region_held_drew (S := fun y => y.heap[gb]? = some (.cells cur 47 (0, 0)) ∧ y.heap[bb]? = some (.cells (#[.int .i64 b0_, .int .i64 b1_, .int .i64 b2_, .int .i64 b3_, .int .i64 b4_, .int .i64 b5_] : Array Value) 49 (0, 0)) ∧ y.heap[vb_]? = some (.cells (#[.int .i64 s0_, .int .i64 s1_, .int .i64 s2_] : Array Value) 47 (0, 0))) (by kernel_rfl) (⟨hr70_0, hr70_1, hr70_2⟩) (fun hS0 => ?_)
                obtain ⟨y71, hy71⟩ : ∃ y, y70.drew = y := ⟨_, rfl⟩
                have HU71 := Lib.hid (show Below y70.heap.size y70 y71 by rw [← hy71]; exact HU70.out.drew)
                have hr71_0 : y71.heap[gb]? = some (.cells cur 47 (0, 0)) := by rw [← hy71]; exact hr70_0
                have hr71_1 : y71.heap[bb]? = some (.cells (#[.int .i64 b0_, .int .i64 b1_, .int .i64 b2_, .int .i64 b3_, .int .i64 b4_, .int .i64 b5_] : Array Value) 49 (0, 0)) := by rw [← hy71]; exact hr70_1
                have hr71_2 : y71.heap[vb_]? = some (.cells (#[.int .i64 s0_, .int .i64 s1_, .int .i64 s2_] : Array Value) 47 (0, 0)) := by rw [← hy71]; exact hr70_2
                rw [hy71] at hS0 ⊢
                clear hy71
                refine wpAnyH_take (i := 0) (v := ?_) rfl (by kernel_rfl) (by kernel_rfl) (by kernel_rfl) (fun _ _ _ h => h) (Or.inl ⟨by kernel_rfl, by (intro wz hSz; go_simp; try with_reducible rfl)⟩) hS0 ?_
                go_simp
                refine wpAnyH_take (i := 1) (v := ?_) rfl (by kernel_rfl) (by kernel_rfl) (by kernel_rfl) (fun _ _ _ h => h) (Or.inl ⟨by kernel_rfl, by (intro wz hSz; go_simp; try with_reducible rfl)⟩) hS0 ?_
                go_simp
                refine wpAnyH_take (i := 2) (v := ?_) rfl (by kernel_rfl) (by kernel_rfl) (by kernel_rfl) (fun _ _ _ h => h) (Or.inl ⟨by kernel_rfl, by (intro wz hSz; go_simp; try with_reducible rfl)⟩) hS0 ?_
                go_simp
                refine wpAnyH_take (i := 3) (v := ?_) rfl (by kernel_rfl) (by kernel_rfl) (by kernel_rfl) (fun _ _ _ h => h) (Or.inl ⟨by kernel_rfl, by (intro wz hSz; go_simp; try with_reducible rfl)⟩) hS0 ?_
                go_simp
                refine wpAnyH_take (i := 4) (v := ?_) rfl (by kernel_rfl) (by kernel_rfl) (by kernel_rfl) (fun _ _ _ h => h) (Or.inl ⟨by kernel_rfl, by (intro wz hSz; go_simp; try with_reducible rfl)⟩) hS0 ?_
                go_simp
                refine wpAnyH_take (i := 5) (v := ?_) rfl (by kernel_rfl) (by kernel_rfl) (by kernel_rfl) (fun _ _ _ h => h) (Or.inl ⟨by kernel_rfl, by (intro wz hSz; have z0 := (cell_of_row _ _ (q * 3 + ax) _ _ _ hSz.1).trans HCX.out; have z1 := (cell_of_row _ _ ax _ _ _ hSz.2.1).trans HBC.out; have z2 := (cell_of_row _ _ ax _ _ _ hSz.2.2).trans HSC.out; go_simp; try with_reducible rfl)⟩) hS0 ?_
                go_simp
                refine wpAnyH_take (i := 6) (v := ?_) rfl (by kernel_rfl) (by kernel_rfl) (by kernel_rfl) (fun _ _ _ h => h) (Or.inl ⟨by kernel_rfl, by (intro wz hSz; go_simp; try with_reducible rfl)⟩) hS0 ?_
                go_simp
                refine wpAnyH_take (i := 7) (v := ?_) rfl (by kernel_rfl) (by kernel_rfl) (by kernel_rfl) (fun _ _ _ h => h) (Or.inl ⟨by kernel_rfl, by (intro wz hSz; go_simp; try with_reducible rfl)⟩) hS0 ?_
                go_simp
                refine wpAnyH_take (i := 8) (v := ?_) rfl (by kernel_rfl) (by kernel_rfl) (by kernel_rfl) (fun _ _ _ h => h) (Or.inl ⟨by kernel_rfl, by (intro wz hSz; go_simp; try with_reducible rfl)⟩) hS0 ?_
                go_simp
                refine wpAnyH_take (i := 9) (v := ?_) rfl (by kernel_rfl) (by kernel_rfl) (by kernel_rfl) (fun _ _ _ h => h) (Or.inl ⟨by kernel_rfl, by (intro wz hSz; have z0 := (cell_of_row _ _ (q * 3 + ax) _ _ _ hSz.1).trans HCX.out; have z1 := (cell_of_row _ _ ax _ _ _ hSz.2.1).trans HBC.out; have z2 := (cell_of_row _ _ ax _ _ _ hSz.2.2).trans HSC.out; go_simp; try with_reducible rfl)⟩) hS0 ?_
                go_simp
                refine wpAnyH_take (i := 10) (v := ?_) rfl (by kernel_rfl) (by kernel_rfl) (by kernel_rfl) (fun _ _ _ h => h) (Or.inl ⟨by kernel_rfl, by (intro wz hSz; go_simp; try with_reducible rfl)⟩) hS0 ?_
                go_simp
                refine wpAnyH_take (i := 11) (v := ?_) rfl (by kernel_rfl) (by kernel_rfl) (by kernel_rfl) (fun _ _ _ h => h) (Or.inl ⟨by kernel_rfl, by (intro wz hSz; go_simp; try with_reducible rfl)⟩) hS0 ?_
                go_simp
                refine wpAnyH_take (i := 12) (v := ?_) rfl (by kernel_rfl) (by kernel_rfl) (by kernel_rfl) (fun _ _ _ h => h) (Or.inl ⟨by kernel_rfl, by (intro wz hSz; have z0 := (cell_of_row _ _ (q * 3 + ax) _ _ _ hSz.1).trans HCX.out; have z1 := (cell_of_row _ _ ax _ _ _ hSz.2.1).trans HBC.out; have z2 := (cell_of_row _ _ ax _ _ _ hSz.2.2).trans HSC.out; go_simp; try with_reducible rfl)⟩) hS0 ?_
                go_simp
                refine wpAnyH_take (i := 14) (v := ?_) rfl (by kernel_rfl) (by kernel_rfl) (by kernel_rfl) (fun _ _ _ h => h) (Or.inl ⟨by kernel_rfl, by (intro wz hSz; go_simp; try with_reducible rfl)⟩) hS0 ?_
                go_simp
                refine wpAnyH_ready (rs := [13]) (by kernel_rfl) (by simp) ?_
                refine AllReadyH.cons rfl (fun K hK => ?_) AllReadyH.nil
                go_simp
                go_wp2_with (go_at_call 34; refine (HPQ.out _).mono ?_; rintro e ww ⟨rfl, rfl⟩)
                refine hK.out _ _ (hS0) (fun hS71q13 => ?_)
                clear hK K
                refine wpAnyH_take (i := 15) (v := ?_) rfl (by kernel_rfl) (by kernel_rfl) (by kernel_rfl) (fun _ _ _ h => h) (Or.inl ⟨by kernel_rfl, by (intro wz hSz; go_simp; try with_reducible rfl)⟩) hS71q13 ?_
                go_simp
                refine wpAnyH_done (by kernel_rfl) ?_ _
                clear hr71_0 hr71_1 hr71_2
                by_cases hct : pq < cut
                · have dd := decide_eq_true hct
                  have HCT := Lib.hid hct
                  rw [dd]
                  clear hct dd
                  have HI := Lib.hid ((own_keep (w' := y71) HA.out fun q hq => HU71.out.block q (HA.out.lt q hq).2).alloc (.cells #[.int .i64 (x : Int)] 3))
                  have HOK := Lib.hid (own_keep (w' := y71) HC.out fun q hq => HU71.out.block q (HC.out.lt q hq).2)
                  have HX1 := Lib.hid (show ∀ j u, ([.int .i64 (x : Int)] : List Value)[j]? = some u → (y71.alloc (.cells #[.int .i64 (x : Int)] 3)).cell? ((⟨y71.heap.size, 0, none⟩ : Addr).add j) = some u from cell_one_new _ _ _)
                  have HX2 := Lib.hid (show ∀ u ∈ ([.int .i64 (x : Int)] : List Value), u.oneCell' = true by intro u hu; simp only [List.mem_cons, List.not_mem_nil, or_false] at hu; subst hu; rfl)
                  have HBM := Lib.hid (HB.out.trans (HU71.out.mono hbs2))
                  have hsM := HBM.out.size
                  have cl := (HU71.out.cell (p := ⟨gl, ol + q, none⟩) (by show gl < _; have := HWW.out.size; omega)).trans CL.out
                  go_wp2_with (first | (at_builtin; refine wpList_append_own_at _ rfl _ _ 25 rfl wo.heap.size 3 j0 (.int .i64 0) 1 8 Try.underlying25 ji jz0 jz1 jz2 rfl (by decide) _ _ _ rfl HI.out ⟨y71.heap.size, 0, none⟩ 1 1 [.int .i64 (x : Int)] rfl rfl HX1.out HX2.out ?c3 ?c4 ?c5 ?_))
                  case c3 => unfold maxLen; omega
                  case c4 => omega
                  case c5 => (first | omega | (simp; omega))
                  intro v2 w2 hown hgrow _ hat
                  have HB2 := Lib.hid ((HBM.out.alloc hsM _).grown hgrow (by simp; omega) (fun q hq => (HA.out.lt q hq).1))
                  have hb1 := below_n1 y71 (.cells #[.int .i64 (x : Int)] 3)
                  have HO2 := Lib.hid (own_keep (w' := w2) HOK.out fun q hq => (hgrow.block q (Nat.lt_of_lt_of_le (HOK.out.lt q hq).2 hb1.size) (fun e => HDD.out q e.symm hq)).trans (hb1.block q (HOK.out.lt q hq).2))
                  have HD2 := Lib.hid (show Apart v2 u17 from fun q h1 h2 => by
                    rcases hat with e | e
                    · exact HDD.out q (e ▸ h1) h2
                    · rw [e] at h1
                      have := (HOK.out.lt q h2).2
                      injection h1 with e2
                      first | omega | (simp at e2; omega))
                  have HR2 := Lib.hid hown
                  clear hown hgrow hat HX1 HX2 HI
                  go_wp2_with fail
                  go_roundw
                  case rel =>
                    have e1 : sel pt cut l (q + 1) = (A ++ [x], C) := by
                      show (if pt q < cut then _ else _) = _
                      rw [if_pos (by rw [← HPE.out]; exact HCT.out), ← HAe.out, ← HCe.out, ← HX.out]
                    exact ⟨q + 1, by omega, by go_num, Lib.hid (by rw [e1]; exact (by rw [nv_snoc, List.length_append]; exact HR2.out)), Lib.hid (by rw [e1]; exact HO2.out), HD2, HB2⟩
                  case measure => simp [intOf]; omega
                · have dd := decide_eq_false hct
                  have HCT := Lib.hid hct
                  rw [dd]
                  clear hct dd
                  have HI := Lib.hid ((own_keep (w' := y71) HC.out fun q hq => HU71.out.block q (HC.out.lt q hq).2).alloc (.cells #[.int .i64 (x : Int)] 3))
                  have HOK := Lib.hid (own_keep (w' := y71) HA.out fun q hq => HU71.out.block q (HA.out.lt q hq).2)
                  have HX1 := Lib.hid (show ∀ j u, ([.int .i64 (x : Int)] : List Value)[j]? = some u → (y71.alloc (.cells #[.int .i64 (x : Int)] 3)).cell? ((⟨y71.heap.size, 0, none⟩ : Addr).add j) = some u from cell_one_new _ _ _)
                  have HX2 := Lib.hid (show ∀ u ∈ ([.int .i64 (x : Int)] : List Value), u.oneCell' = true by intro u hu; simp only [List.mem_cons, List.not_mem_nil, or_false] at hu; subst hu; rfl)
                  have HBM := Lib.hid (HB.out.trans (HU71.out.mono hbs2))
                  have hsM := HBM.out.size
                  have cl := (HU71.out.cell (p := ⟨gl, ol + q, none⟩) (by show gl < _; have := HWW.out.size; omega)).trans CL.out
                  go_wp2_with (first | (at_builtin; refine wpList_append_own_at _ rfl _ _ 25 rfl wo.heap.size 3 j0 (.int .i64 0) 1 8 Try.underlying25 ji jz0 jz1 jz2 rfl (by decide) _ _ _ rfl HI.out ⟨y71.heap.size, 0, none⟩ 1 1 [.int .i64 (x : Int)] rfl rfl HX1.out HX2.out ?c3 ?c4 ?c5 ?_))
                  case c3 => unfold maxLen; omega
                  case c4 => omega
                  case c5 => (first | omega | (simp; omega))
                  intro v2 w2 hown hgrow _ hat
                  have HB2 := Lib.hid ((HBM.out.alloc hsM _).grown hgrow (by simp; omega) (fun q hq => (HC.out.lt q hq).1))
                  have hb1 := below_n1 y71 (.cells #[.int .i64 (x : Int)] 3)
                  have HO2 := Lib.hid (own_keep (w' := w2) HOK.out fun q hq => (hgrow.block q (Nat.lt_of_lt_of_le (HOK.out.lt q hq).2 hb1.size) (fun e => HDD.out q hq e.symm)).trans (hb1.block q (HOK.out.lt q hq).2))
                  have HD2 := Lib.hid (show Apart u16 v2 from fun q h1 h2 => by
                    rcases hat with e | e
                    · exact HDD.out q h1 (e ▸ h2)
                    · rw [e] at h2
                      have := (HOK.out.lt q h1).2
                      injection h2 with e2
                      first | omega | (simp at e2; omega))
                  have HR2 := Lib.hid hown
                  clear hown hgrow hat HX1 HX2 HI
                  go_wp2_with fail
                  go_roundw
                  case rel =>
                    have e1 : sel pt cut l (q + 1) = (A, C ++ [x]) := by
                      show (if pt q < cut then _ else _) = _
                      rw [if_neg (by rw [← HPE.out]; exact Int.not_lt.mpr HCT.out), ← HAe.out, ← HCe.out, ← HX.out]
                    exact ⟨q + 1, by omega, by go_num, Lib.hid (by rw [e1]; exact HO2.out), Lib.hid (by rw [e1]; exact (by rw [nv_snoc, List.length_append]; exact HR2.out)), HD2, HB2⟩
                  case measure => simp [intOf]; omega
              · have hqm : q = h + (r + 1) := by omega
                subst hqm
                have hnl2 : ¬ (h : Int) + ((r : Int) + 1) < (h : Int) + ((r : Int) + 1) := by omega
                clear hlt' hq
                obtain ⟨y70, rfl⟩ : ∃ y : World, y = wr := ⟨_, rfl⟩
                rw [← HNN.out] at HA HC hsl
                have HW4 := Lib.hid (HW.out.trans (HB.out.mono hws))
                have HWW4 := Lib.hid (HWW.out.trans (HB.out.mono HWW.out.size))
                have hws0 := HWW.out.size
                have hlts := sel_lt pt cut l N HLT.out
                have HD4 := Lib.hid (show ((cutsN PL l pt k).found = false ∧ u12 = .slice none 0 0) ∨ ((cutsN PL l pt k).found = true ∧ Lies y70 u12 (cutsN PL l pt k).first (fun g => g = gl ∨ w.heap.size ≤ g) ∧ Lies y70 u13 (cutsN PL l pt k).others (fun g => g = gl ∨ w.heap.size ≤ g)) from HD.out.imp id (fun h => ⟨h.1, h.2.1.on HB.out, h.2.2.on HB.out⟩))
                have HSK := Lib.hid (show ((sel pt cut l l.length).1.length = 0 ∨ (sel pt cut l l.length).2.length = 0) → cutsN PL l pt (k + 1) = cutsN PL l pt k from fun h => cuts_skip (by rw [← HCUT.out]; exact h))
                have HTK := Lib.hid (show (sel pt cut l l.length).1.length ≠ 0 → (sel pt cut l l.length).2.length ≠ 0 → ((cutsN PL l pt k).found = false ∨ costL PL (sel pt cut l l.length).1 + costL PL (sel pt cut l l.length).2 < ls) → cutsN PL l pt (k + 1) = ⟨(sel pt cut l l.length).1, (sel pt cut l l.length).2, costL PL (sel pt cut l l.length).1 + costL PL (sel pt cut l l.length).2, true⟩ from fun h1 h2 h => by
                  rw [HCUT.out] at h1 h2 h ⊢
                  exact cuts_take h1 h2 (by rw [← HLS.out]; exact h))
                have HKE := Lib.hid (show ¬ ((cutsN PL l pt k).found = false ∨ costL PL (sel pt cut l l.length).1 + costL PL (sel pt cut l l.length).2 < ls) → cutsN PL l pt (k + 1) = cutsN PL l pt k from fun h => cuts_keep (by rw [HCUT.out] at h; rw [← HLS.out]; exact h))
                obtain ⟨A, hA⟩ : ∃ A, A = (sel pt cut l l.length).1 := ⟨_, rfl⟩
                obtain ⟨C, hC⟩ : ∃ C, C = (sel pt cut l l.length).2 := ⟨_, rfl⟩
                rw [← hA] at HA hsl hlts HSK HTK HKE
                rw [← hC] at HC hsl hlts HSK HTK HKE
                clear hA hC HD HW HB hws hbs2
                have hln := HNN.out
                have hAm : A.length ≤ 1000 := by omega
                have hCm : C.length ≤ 1000 := by omega
                obtain ⟨aa, ka, hva⟩ := own_slice HA.out
                obtain ⟨ac, kc, hvc⟩ := own_slice HC.out
                subst hva
                subst hvc
                obtain ⟨na, hna⟩ : ∃ n, n = A.length := ⟨_, rfl⟩
                obtain ⟨nc, hnc⟩ : ∃ n, n = C.length := ⟨_, rfl⟩
                rw [← hna, ← hnc]
                have HNA := Lib.hid hna
                have HNC := Lib.hid hnc
                have HLT2 := Lib.hid hlts
                have hAmn : na ≤ 1000 := by omega
                have hCmn : nc ≤ 1000 := by omega
                have hcc1 : (k : Int) + 1 + 1 = cut + 1 := by have := HCUT2.out; omega
                have HCC1 := Lib.hid hcc1
                clear hna hnc hlts hsl hln hAm hCm hcc1
                go_upto_region 24 with fail
                by_cases a0 : na = 0
                · subst a0
                  have HE := Lib.hid (HSK.out (Or.inl HNA.out.symm))
                  clear HSK HTK HKE
                  go_wp2_with fail
                  go_roundw
                  case rel => exact ⟨k + 1, by omega, by rw [← HCUT2.out]; go_num, by rw [HE.out, ← HLS.out], Lib.hid (by rw [HE.out]; exact HD4.out), HW4⟩
                  case measure => have := HCUT2.out; simp [intOf]; omega
                · have fa : (((na : Nat) : Int) == 0) = false := by simp; omega
                  by_cases c0 : nc = 0
                  · subst c0
                    have HE := Lib.hid (HSK.out (Or.inr HNC.out.symm))
                    clear HSK HTK HKE
                    go_wp2_with fail
                    go_roundw
                    case rel => exact ⟨k + 1, by omega, by rw [← HCUT2.out]; go_num, by rw [HE.out, ← HLS.out], Lib.hid (by rw [HE.out]; exact HD4.out), HW4⟩
                    case measure => have := HCUT2.out; simp [intOf]; omega
                  · have fc : (((nc : Nat) : Int) == 0) = false := by simp; omega
                    have e1 := HNA.out
                    have e2 := HNC.out
                    obtain ⟨ga, oa, ca, hva, hca, hga, hPa, hcells⟩ := own_lies HA.out (by omega) (fun g => g = gl ∨ w.heap.size ≤ g) (fun q hq => Or.inr (by omega))
                    have hLA := own_lies HA.out (by omega) (fun g => g = gl ∨ w.heap.size ≤ g) (fun q hq => Or.inr (by omega))
                    have hLC := own_lies HC.out (by omega) (fun g => g = gl ∨ w.heap.size ≤ g) (fun q hq => Or.inr (by omega))
                    obtain ⟨gc, oc, cc, hvc, hcc, hgc, hPc, hcells2⟩ := own_lies HC.out (by omega) (fun g => g = gl ∨ w.heap.size ≤ g) (fun q hq => Or.inr (by omega))
                    have hCA := fun (W : World) (hb : Below y70.heap.size y70 W) => HBT.out A ga oa ca W (HWW4.out.trans (hb.mono HWW4.out.size)) (by omega) (by omega) HLT2.out.1 hca (Nat.lt_of_lt_of_le hga hb.size) (fun j hj => (hb.cell (p := ⟨ga, oa + j, none⟩) hga).trans (hcells j hj))
                    have hCC := fun (W : World) (hb : Below y70.heap.size y70 W) => HBT.out C gc oc cc W (HWW4.out.trans (hb.mono HWW4.out.size)) (by omega) (by omega) HLT2.out.2 hcc (Nat.lt_of_lt_of_le hgc hb.size) (fun j hj => (hb.cell (p := ⟨gc, oc + j, none⟩) hgc).trans (hcells2 j hj))
                    obtain ⟨ra0_, hra0_⟩ : ∃ t, t = lo6 (La (pl PL A)) 0 A.length := ⟨_, rfl⟩
                    obtain ⟨ra1_, hra1_⟩ : ∃ t, t = lo6 (La (pl PL A)) 1 A.length := ⟨_, rfl⟩
                    obtain ⟨ra2_, hra2_⟩ : ∃ t, t = lo6 (La (pl PL A)) 2 A.length := ⟨_, rfl⟩
                    obtain ⟨ra3_, hra3_⟩ : ∃ t, t = hi6 (La (pl PL A)) 0 A.length := ⟨_, rfl⟩
                    obtain ⟨ra4_, hra4_⟩ : ∃ t, t = hi6 (La (pl PL A)) 1 A.length := ⟨_, rfl⟩
                    obtain ⟨ra5_, hra5_⟩ : ∃ t, t = hi6 (La (pl PL A)) 2 A.length := ⟨_, rfl⟩
                    obtain ⟨ra6_, hra6_⟩ : ∃ t, t = lo6 (Lb (pl PL A)) 0 A.length := ⟨_, rfl⟩
                    obtain ⟨ra7_, hra7_⟩ : ∃ t, t = lo6 (Lb (pl PL A)) 1 A.length := ⟨_, rfl⟩
                    obtain ⟨ra8_, hra8_⟩ : ∃ t, t = lo6 (Lb (pl PL A)) 2 A.length := ⟨_, rfl⟩
                    obtain ⟨ra9_, hra9_⟩ : ∃ t, t = hi6 (Lb (pl PL A)) 0 A.length := ⟨_, rfl⟩
                    obtain ⟨ra10_, hra10_⟩ : ∃ t, t = hi6 (Lb (pl PL A)) 1 A.length := ⟨_, rfl⟩
                    obtain ⟨ra11_, hra11_⟩ : ∃ t, t = hi6 (Lb (pl PL A)) 2 A.length := ⟨_, rfl⟩
                    obtain ⟨rc0_, hrc0_⟩ : ∃ t, t = lo6 (La (pl PL C)) 0 C.length := ⟨_, rfl⟩
                    obtain ⟨rc1_, hrc1_⟩ : ∃ t, t = lo6 (La (pl PL C)) 1 C.length := ⟨_, rfl⟩
                    obtain ⟨rc2_, hrc2_⟩ : ∃ t, t = lo6 (La (pl PL C)) 2 C.length := ⟨_, rfl⟩
                    obtain ⟨rc3_, hrc3_⟩ : ∃ t, t = hi6 (La (pl PL C)) 0 C.length := ⟨_, rfl⟩
                    obtain ⟨rc4_, hrc4_⟩ : ∃ t, t = hi6 (La (pl PL C)) 1 C.length := ⟨_, rfl⟩
                    obtain ⟨rc5_, hrc5_⟩ : ∃ t, t = hi6 (La (pl PL C)) 2 C.length := ⟨_, rfl⟩
                    obtain ⟨rc6_, hrc6_⟩ : ∃ t, t = lo6 (Lb (pl PL C)) 0 C.length := ⟨_, rfl⟩
                    obtain ⟨rc7_, hrc7_⟩ : ∃ t, t = lo6 (Lb (pl PL C)) 1 C.length := ⟨_, rfl⟩
                    obtain ⟨rc8_, hrc8_⟩ : ∃ t, t = lo6 (Lb (pl PL C)) 2 C.length := ⟨_, rfl⟩
                    obtain ⟨rc9_, hrc9_⟩ : ∃ t, t = hi6 (Lb (pl PL C)) 0 C.length := ⟨_, rfl⟩
                    obtain ⟨rc10_, hrc10_⟩ : ∃ t, t = hi6 (Lb (pl PL C)) 1 C.length := ⟨_, rfl⟩
                    obtain ⟨rc11_, hrc11_⟩ : ∃ t, t = hi6 (Lb (pl PL C)) 2 C.length := ⟨_, rfl⟩
                    simp only [← hra0_, ← hra1_, ← hra2_, ← hra3_, ← hra4_, ← hra5_, ← hra6_, ← hra7_, ← hra8_, ← hra9_, ← hra10_, ← hra11_] at hCA
                    simp only [← hrc0_, ← hrc1_, ← hrc2_, ← hrc3_, ← hrc4_, ← hrc5_, ← hrc6_, ← hrc7_, ← hrc8_, ← hrc9_, ← hrc10_, ← hrc11_] at hCC
                    rw [← hva, ← e1] at hCA
                    rw [← hvc, ← e2] at hCC
      
                    have hSA : ∀ W, Calls Try.prog 35 #[.agg #[.int .i64 (min ra0_ ra6_), .int .i64 (min ra1_ ra7_), .int .i64 (min ra2_ ra8_), .int .i64 (max ra3_ ra9_), .int .i64 (max ra4_ ra10_), .int .i64 (max ra5_ ra11_)]] W fun e w' => e = .returned (.int .i64 (skinL PL A)) ∧ Below W.heap.size W w' := fun W => by unfold skinL; simp only [← hra0_, ← hra1_, ← hra2_, ← hra3_, ← hra4_, ← hra5_, ← hra6_, ← hra7_, ← hra8_, ← hra9_, ← hra10_, ← hra11_]; exact rskin_any _ _ _ _ _ _ W
                    have hSC : ∀ W, Calls Try.prog 35 #[.agg #[.int .i64 (min rc0_ rc6_), .int .i64 (min rc1_ rc7_), .int .i64 (min rc2_ rc8_), .int .i64 (max rc3_ rc9_), .int .i64 (max rc4_ rc10_), .int .i64 (max rc5_ rc11_)]] W fun e w' => e = .returned (.int .i64 (skinL PL C)) ∧ Below W.heap.size W w' := fun W => by unfold skinL; simp only [← hrc0_, ← hrc1_, ← hrc2_, ← hrc3_, ← hrc4_, ← hrc5_, ← hrc6_, ← hrc7_, ← hrc8_, ← hrc9_, ← hrc10_, ← hrc11_]; exact rskin_any _ _ _ _ _ _ W
                    have b1 := costL_le PL A (by omega)
                    have b2 := costL_le PL C (by omega)
                    have q1 : costL PL A = (na : Int) * skinL PL A := by unfold costL; rw [e1]
                    have q2 : costL PL C = (nc : Int) * skinL PL C := by unfold costL; rw [e2]
                    obtain ⟨ka2, hka2⟩ : ∃ x, x = costL PL A := ⟨_, rfl⟩
                    obtain ⟨kc2, hkc2⟩ : ∃ x, x = costL PL C := ⟨_, rfl⟩
                    rw [← hka2] at b1 HTK HKE q1
                    rw [← hkc2] at b2 HTK HKE q2
                    obtain ⟨sa, hsa⟩ : ∃ x, x = skinL PL A := ⟨_, rfl⟩
                    obtain ⟨sc, hsc⟩ : ∃ x, x = skinL PL C := ⟨_, rfl⟩
                    rw [← hsa] at hSA q1
                    rw [← hsc] at hSC q2
                    have hw1 : IntKind.i64.wrap ((na : Int) * sa) = ka2 := by rw [← q1, IntKind.wrap_i64]; omega
                    have hw2 : IntKind.i64.wrap ((nc : Int) * sc) = kc2 := by rw [← q2, IntKind.wrap_i64]; omega
                    have hwr : IntKind.i64.wrap (ka2 + kc2) = ka2 + kc2 := by rw [IntKind.wrap_i64]; omega
                    have HCA := Lib.hid hCA
                    have HCC := Lib.hid hCC
                    have HSA := Lib.hid hSA
                    have HSCC := Lib.hid hSC
                    rw [← e1] at hLA
                    rw [← e2] at hLC
                    have HLA4 := Lib.hid hLA
                    have HLC4 := Lib.hid hLC
                    have HN1 := Lib.hid (show A.length ≠ 0 by omega)
                    have HN2 := Lib.hid (show C.length ≠ 0 by omega)
                    clear hCA hCC hLA hLC hka2 hkc2 e1 e2 hva hvc hcells hcells2 hca hcc hga hgc hPa hPc b1 b2 HA HC HSK hSA hSC q1 q2 hsa hsc hra0_ hra1_ hra2_ hra3_ hra4_ hra5_ hra6_ hra7_ hra8_ hra9_ hra10_ hra11_ hrc0_ hrc1_ hrc2_ hrc3_ hrc4_ hrc5_ hrc6_ hrc7_ hrc8_ hrc9_ hrc10_ hrc11_
                    go_wp2_with fail
                    refine (HCA.out _ (Below.refl _ _)).mono ?_
                    rintro e y71 ⟨rfl, hb71⟩
                    go_wp2_with fail
                    refine (rwhole_any _ _ _ _ _ _ _ _ _ _ _ _ _).mono ?_
                    rintro e y72 ⟨rfl, hb72⟩
                    go_wp2_with fail
                    refine (HSA.out _).mono ?_
                    rintro e y73 ⟨rfl, hb73⟩
                    have hc73 := hb71.trans ((hb72.trans (hb73.mono hb72.size)).mono hb71.size)
                    go_wp2_with fail
                    refine (HCC.out _ hc73).mono ?_
                    rintro e y74 ⟨rfl, hb74⟩
                    go_wp2_with fail
                    refine (rwhole_any _ _ _ _ _ _ _ _ _ _ _ _ _).mono ?_
                    rintro e y75 ⟨rfl, hb75⟩
                    go_wp2_with fail
                    refine (HSCC.out _).mono ?_
                    rintro e y76 ⟨rfl, hb76⟩
                    have hc76 := hc73.trans ((hb74.trans ((hb75.trans (hb76.mono hb75.size)).mono hb74.size)).mono hc73.size)
                    have HW6 := Lib.hid (HW4.out.trans (hc76.mono HW4.out.size))
                    have HLA6 := Lib.hid (HLA4.out.on hc76)
                    have HLC6 := Lib.hid (HLC4.out.on hc76)
                    have HD6 := Lib.hid (show ((cutsN PL l pt k).found = false ∧ u12 = .slice none 0 0) ∨ ((cutsN PL l pt k).found = true ∧ Lies y76 u12 (cutsN PL l pt k).first (fun g => g = gl ∨ w.heap.size ≤ g) ∧ Lies y76 u13 (cutsN PL l pt k).others (fun g => g = gl ∨ w.heap.size ≤ g)) from HD4.out.imp id (fun h => ⟨h.1, h.2.1.on hc76, h.2.2.on hc76⟩))
                    clear hb71 hb72 hb73 hb74 hb75 hb76 hc73 hc76 HLA4 HLC4 HW4 HD4
                    go_upto_region 26 with fail
                    clear hw1 hw2 hwr
                    rcases HD6.out with ⟨hf, h12⟩ | ⟨hf, hl12, hl13⟩
                    · subst h12
                      have HE := Lib.hid (HTK.out HN1.out HN2.out (Or.inl hf))
                      clear hf
                      go_wp2_with fail
                      go_roundw
                      case rel => exact ⟨k + 1, by omega, by rw [← HCUT2.out]; go_num, by rw [HE.out], Lib.hid (Or.inr ⟨by rw [HE.out], by rw [HE.out]; exact HLA6.out, by rw [HE.out]; exact HLC6.out⟩), HW6⟩
                      case measure => have := HCUT2.out; simp [intOf]; omega
                    · have hfp := found_pos PL l pt k hf
                      obtain ⟨g3, o3, c3, h3, -⟩ := hl12
                      subst h3
                      obtain ⟨nf, hnf⟩ : ∃ n, n = (cutsN PL l pt k).first.length := ⟨_, rfl⟩
                      rw [← hnf] at hfp ⊢
                      have ff : (((nf : Nat) : Int) == 0) = false := by simp; omega
                      have HF := Lib.hid hf
                      have HNF := Lib.hid hnf
                      clear hf hl13 hnf
                      by_cases hlt3 : ka2 + kc2 < ls
                      · have HE := Lib.hid (HTK.out HN1.out HN2.out (Or.inr hlt3))
                        go_wp2_with fail
                        go_roundw
                        case rel => exact ⟨k + 1, by omega, by rw [← HCUT2.out]; go_num, by rw [HE.out], Lib.hid (Or.inr ⟨by rw [HE.out], by rw [HE.out]; exact HLA6.out, by rw [HE.out]; exact HLC6.out⟩), HW6⟩
                        case measure => have := HCUT2.out; simp [intOf]; omega
                      · have HE := Lib.hid (HKE.out (by rw [HF.out]; simp; omega))
                        go_wp2_with fail
                        go_roundw
                        case rel => exact ⟨k + 1, by omega, by rw [← HCUT2.out]; go_num, by rw [HE.out, ← HLS.out], Lib.hid (by rw [HE.out, HNF.out]; exact HD6.out), HW6⟩
                        case measure => have := HCUT2.out; simp [intOf]; omega
          · have hkm : k = 7 := by omega
            subst hkm
            have e := HPTE.out
            have HWf := Lib.hid (HZ.out.trans (HW.out.mono hsz))
            have HLA7 := Lib.hid (HLA.out.on HW.out)
            have HLB7 := Lib.hid (HLB.out.on HW.out)
            rcases HD.out with ⟨hf, h12⟩ | ⟨hf, hl12, hl13⟩
            · subst h12
              have hnf := notfound_half PL l pt 7 hf
              have HAB := Lib.hid (show splitA PL l = l.take (l.length / 2) ∧ splitB PL l = l.drop (l.length / 2) from by unfold splitA splitB; rw [← e, hnf]; exact ⟨rfl, rfl⟩)
              clear hf hnf e
              go_upto_region 31 with fail
      
              obtain ⟨y60, rfl⟩ : ∃ y : World, y = wr := ⟨_, rfl⟩
              have hr60_0 := (HW.out.block gb hm0).trans HRM.out
              have HU60 := HWf
              refine wp_region_held_drew (S := fun y => y.heap[gb]? = some (.cells cur 47 (0, 0))) (by kernel_rfl) (hr60_0) (fun hS0 => ?_)
              obtain ⟨y61, hy61⟩ : ∃ y, y60.drew = y := ⟨_, rfl⟩
              have HU61 := Lib.hid (show Below w.heap.size w y61 by rw [← hy61]; exact HU60.out.drew)
              have hr61_0 : y61.heap[gb]? = some (.cells cur 47 (0, 0)) := by rw [← hy61]; exact hr60_0
              have hdr : Below y60.heap.size y60 y61 := by rw [← hy61]; exact (Below.refl _ _).drew
              rw [hy61] at hS0 ⊢
              clear hy61
              refine wpAnyH_take (i := 0) (v := ?_) rfl (by kernel_rfl) (by kernel_rfl) (by kernel_rfl) (fun _ _ _ h => h) (Or.inl ⟨by kernel_rfl, by (intro wz hSz; go_simp; try with_reducible rfl)⟩) hS0 ?_
              go_simp
              refine wpAnyH_take (i := 1) (v := ?_) rfl (by kernel_rfl) (by kernel_rfl) (by kernel_rfl) (fun _ _ _ h => h) (Or.inl ⟨by kernel_rfl, by (intro wz hSz; go_simp; try with_reducible rfl)⟩) hS0 ?_
              go_simp
              refine wpAnyH_take (i := 2) (v := ?_) rfl (by kernel_rfl) (by kernel_rfl) (by kernel_rfl) (fun _ _ _ h => h) (Or.inl ⟨by kernel_rfl, by (intro wz hSz; go_simp; try with_reducible rfl)⟩) hS0 ?_
              go_simp
              refine wpAnyH_take (i := 3) (v := ?_) rfl (by kernel_rfl) (by kernel_rfl) (by kernel_rfl) (fun _ _ _ h => h) (Or.inl ⟨by kernel_rfl, by (intro wz hSz; go_simp; try with_reducible rfl)⟩) hS0 ?_
              go_simp
              refine wpAnyH_take (i := 4) (v := ?_) rfl (by kernel_rfl) (by kernel_rfl) (by kernel_rfl) (fun _ _ _ h => h) (Or.inl ⟨by kernel_rfl, by (intro wz hSz; go_simp; try with_reducible rfl)⟩) hS0 ?_
              go_simp
              refine wpAnyH_take (i := 5) (v := ?_) rfl (by kernel_rfl) (by kernel_rfl) (by kernel_rfl) (fun _ _ _ h => h) (Or.inl ⟨by kernel_rfl, by (intro wz hSz; go_simp; try with_reducible rfl)⟩) hS0 ?_
              go_simp
              refine wpAnyH_take (i := 6) (v := ?_) rfl (by kernel_rfl) (by kernel_rfl) (by kernel_rfl) (fun _ _ _ h => h) (Or.inl ⟨by kernel_rfl, by (intro wz hSz; go_simp; try with_reducible rfl)⟩) hS0 ?_
              go_simp
              refine wpAnyH_take (i := 7) (v := ?_) rfl (by kernel_rfl) (by kernel_rfl) (by kernel_rfl) (fun _ _ _ h => h) (Or.inl ⟨by kernel_rfl, by (intro wz hSz; go_simp; try with_reducible rfl)⟩) hS0 ?_
              go_simp
              refine wpAnyH_done (by kernel_rfl) ?_ _
              go_wp2_with fail
              go_ret2
              rw [HAB.out.1, HAB.out.2, ← HH.out]
              exact ⟨⟨_, _, rfl, HLA7.out.on hdr, HLB7.out.on hdr⟩, HU61.out⟩
            · have hfp := found_pos PL l pt 7 hf
              have HA7 := Lib.hid hl12
              have HB7 := Lib.hid hl13
              obtain ⟨g3, o3, c3, h3, -⟩ := hl12
              subst h3
              obtain ⟨nf, hnf⟩ : ∃ n, n = (cutsN PL l pt 7).first.length := ⟨_, rfl⟩
              rw [← hnf] at hfp ⊢
              have ff : (((nf : Nat) : Int) == 0) = false := by simp; omega
              have HNF := Lib.hid hnf
              clear hf hl13 hnf hfp
              go_wp2_with fail
              go_ret2
              rw [show nf = (cutsN PL l pt 7).first.length from HNF.out]
              subst e
              exact ⟨⟨_, _, rfl, HA7.out, HB7.out⟩, HWf.out⟩

end Go.Proofs.Ytoppcnkfgmbpfaa.Tr
