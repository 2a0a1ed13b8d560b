/- Trees: in which parts some shapes' middles lie, by the program. -/
import Derived.Test.YtoppcnkfgmbpfaaE33
import Derived.Test.YtoppcnkfgmbpfaaE35
namespace Go.Proofs.Ytoppcnkfgmbpfaa.Tr
open Go.RowKit Go.Proofs.Ytoppcnkfgmbpfaa Go.Proofs.Ytoppcnkfgmbpfaa.Wa Go.Proofs.Ytoppcnkfgmbpfaa.Ve Go.Proofs.Ytoppcnkfgmbpfaa.Au Go.Proofs.Ytoppcnkfgmbpfaa.Bx
set_option linter.unusedVariables false
set_option linter.unusedSimpArgs false

theorem infoVecM : (Try.prog.info? 39).map (fun i => (i.zero, i.size, i.bytes)) = some (some (.agg #[.int .i64 0, .int .i64 0, .int .i64 0]), 3, 24) := by kernel_rfl

def flat3m (L : Nat → Int) (k : Nat) : List Value := (List.range (k * 3)).map fun j => .int .i64 (L j)

theorem flat3m_step (L : Nat → Int) (k : Nat) : flat3m L (k + 1) = flat3m L k ++ [.int .i64 (L (k * 3)), .int .i64 (L (k * 3 + 1)), .int .i64 (L (k * 3 + 2))] := by
  simp [flat3m, show (k + 1) * 3 = k * 3 + 1 + 1 + 1 by omega, List.range_succ]

theorem flat3m_at (L : Nat → Int) (k j : Nat) (h : j < k * 3) : (flat3m L k)[j]? = some (.int .i64 (L j)) := by
  simp [flat3m, h]

def pv (f : Nat → Int) (k : Nat) : List Value := (List.range k).map fun j => .int .i64 (f j)

theorem pv_step (f : Nat → Int) (k : Nat) : pv f (k + 1) = pv f k ++ [.int .i64 (f k)] := by simp [pv, List.range_succ]

theorem own_mono {w : World} {b b' n c : Nat} {e : TypeId} {v : Value} {xs : List Value} (h : w.ownsRow b e c v n xs) (hb : b' ≤ b) : w.ownsRow b' e c v n xs := by
  refine ⟨h.1, ?_⟩
  rcases h.2 with hn | ⟨q, cap, cur, h1, h2, h3⟩
  · exact .inl hn
  · exact .inr ⟨q, cap, cur, h1, by omega, h3⟩

theorem mids_at (PL : Nat → Int) (l : List Nat) (k c : Nat) (hc : c < 3) : mids PL l (k * 3 + c) = midN PL (l.getD k 0) c := by
  unfold mids
  rw [show (k * 3 + c) / 3 = k by omega, show (k * 3 + c) % 3 = c by omega]

theorem axis_lt (PL : Nat → Int) (l : List Nat) : axisN PL l < 3 := by
  unfold axisN widest
  split
  · decide
  · split <;> decide

theorem axis_int (PL : Nat → Int) (l : List Nat) : ((axisN PL l : Nat) : Int) = widest (Pl.amount (wideM PL l 0)) (Pl.amount (wideM PL l 1)) (Pl.amount (wideM PL l 2)) := by
  unfold axisN widest
  split
  · decide
  · split <;> decide

theorem pick3 (f : Nat → Int) (a : Nat) (h : a < 3) : (if (a : Int) = 0 then f 0 else if (a : Int) = 1 then f 1 else f 2) = f a := by
  match a, h with
  | 0, _ => rfl
  | 1, _ => rfl
  | 2, _ => rfl

set_option maxHeartbeats 4000000 in
set_option maxRecDepth 100000 in
theorem parts_l (PL : Nat → Int) (N : Nat) (l : List Nat) (h1 : 1 ≤ l.length) (hm : l.length ≤ 1000) (hN : N ≤ 1000) (hlt : ∀ j, j < l.length → l.getD j 0 < N) (mb gp op pc gl ol lc : Nat) (nw ow : Value) (w : World) (hgp : gp < w.heap.size) (hgl : gl < w.heap.size)
    (hmb : w.heap[mb]? = some (.cells #[nw, ow, .slice (some ⟨gp, op, none⟩) N pc] 58 (0, 0)))
    (hp : ∀ j, j < N * 12 → w.cell? ⟨gp, op + j, none⟩ = some (.int .i64 (PL j))) (hl : ∀ j, j < l.length → w.cell? ⟨gl, ol + j, none⟩ = some (.int .i64 ((l.getD j 0 : Nat) : Int))) :
    Calls Try.prog 25 #[.pointer (some ⟨mb, 0, none⟩), .slice (some ⟨gl, ol, none⟩) l.length lc] w fun e w' => (∃ v, e = .returned v ∧ w'.ownsRow w.heap.size 3 1 v l.length (pv (partOf PL l) l.length)) ∧ Below w.heap.size w w' := by

  obtain ⟨i0, hi, hz0, hz1, hz2⟩ := info_parts infoVecM
  obtain ⟨j0, ji, jz0, jz1, jz2⟩ := info_parts infoInt1
  have HPP := Lib.hid hp
  have HLL := Lib.hid hl
  have HLT := Lib.hid hlt
  have HMB := Lib.hid hmb
  have hml := lt_heap hmb
  clear hp hl hlt hmb
  obtain ⟨m, hmm⟩ : ∃ m, l.length = m + 1 := ⟨l.length - 1, by omega⟩
  rw [hmm]
  have HMM := Lib.hid hmm
  have hm1 : m + 1 ≤ 1000 := by omega
  have hm1i : (0 : Int) < ((m + 1 : Nat) : Int) := by omega
  clear hmm h1 hm
  go_enter Try.func25, Try.ntmps25
  go_upto_region 3 with fail
  go_loopw [5, 7, 19] (fun v s7 i wr => ∃ k : Nat, k ≤ m + 1 ∧ i = .int .i64 k ∧ Hid (wr.ownsRow w.heap.size 39 3 v k (flat3m (mids PL l) k)) ∧ Hid (Below w.heap.size w wr)) (fun _ _ i _ => m + 1 - (intOf i).toNat)
  case atStart => exact ⟨0, by omega, rfl, Lib.hid (by simpa [flat3m] using World.ownsRow_nil _ _ _ _), Lib.hid (Below.refl _ _)⟩
  case round =>
    obtain ⟨k, hk, rfl, HO, HB⟩ := hrel
    have hbs := HB.out.size
    by_cases hlt' : k < m + 1
    · have hki : (k : Int) < ((m + 1 : Nat) : Int) := by omega
      obtain ⟨x, hx⟩ : ∃ x, x = l.getD k 0 := ⟨_, rfl⟩
      have hxN : x < N := by rw [hx]; exact HLT.out k (by have := HMM.out; omega)
      have hxi : (x : Int) < N := by omega
      have cl : wr.cell? ⟨gl, ol + k, none⟩ = some (.int .i64 (x : Int)) := by rw [hx]; exact (HB.out.cell (p := ⟨gl, ol + k, none⟩) hgl).trans (HLL.out k (by have := HMM.out; omega))
      have hmr := (HB.out.block mb hml).trans HMB.out
      have cm := cell_of_row _ _ 2 _ _ _ hmr
      simp at cm
      clear hmr
      have cp : ∀ c, c < 12 → wr.cell? ⟨gp, op + (x * 12 + c), none⟩ = some (.int .i64 (PL (x * 12 + c))) := fun c hc => (HB.out.cell (p := ⟨gp, op + (x * 12 + c), none⟩) hgp).trans (HPP.out _ (by omega))
      have cp0 : wr.cell? ⟨gp, op + x * 12, none⟩ = some (.int .i64 (PL (x * 12))) := by have := cp 0 (by omega); rw [show op + (x * 12 + 0) = op + x * 12 by omega] at this; exact this
      have cp1 : wr.cell? ⟨gp, op + x * 12 + 1, none⟩ = some (.int .i64 (PL (x * 12 + 1))) := by have := cp 1 (by omega); rw [show op + (x * 12 + 1) = op + x * 12 + 1 by omega] at this; exact this
      have cp2 : wr.cell? ⟨gp, op + x * 12 + 2, none⟩ = some (.int .i64 (PL (x * 12 + 2))) := by have := cp 2 (by omega); rw [show op + (x * 12 + 2) = op + x * 12 + 2 by omega] at this; exact this
      have cp3 : wr.cell? ⟨gp, op + x * 12 + 3, none⟩ = some (.int .i64 (PL (x * 12 + 3))) := by have := cp 3 (by omega); rw [show op + (x * 12 + 3) = op + x * 12 + 3 by omega] at this; exact this
      have cp4 : wr.cell? ⟨gp, op + x * 12 + 4, none⟩ = some (.int .i64 (PL (x * 12 + 4))) := by have := cp 4 (by omega); rw [show op + (x * 12 + 4) = op + x * 12 + 4 by omega] at this; exact this
      have cp5 : wr.cell? ⟨gp, op + x * 12 + 5, none⟩ = some (.int .i64 (PL (x * 12 + 5))) := by have := cp 5 (by omega); rw [show op + (x * 12 + 5) = op + x * 12 + 5 by omega] at this; exact this
      have cp6 : wr.cell? ⟨gp, op + x * 12 + 6, none⟩ = some (.int .i64 (PL (x * 12 + 6))) := by have := cp 6 (by omega); rw [show op + (x * 12 + 6) = op + x * 12 + 6 by omega] at this; exact this
      have cp7 : wr.cell? ⟨gp, op + x * 12 + 7, none⟩ = some (.int .i64 (PL (x * 12 + 7))) := by have := cp 7 (by omega); rw [show op + (x * 12 + 7) = op + x * 12 + 7 by omega] at this; exact this
      have cp8 : wr.cell? ⟨gp, op + x * 12 + 8, none⟩ = some (.int .i64 (PL (x * 12 + 8))) := by have := cp 8 (by omega); rw [show op + (x * 12 + 8) = op + x * 12 + 8 by omega] at this; exact this
      have cp9 : wr.cell? ⟨gp, op + x * 12 + 9, none⟩ = some (.int .i64 (PL (x * 12 + 9))) := by have := cp 9 (by omega); rw [show op + (x * 12 + 9) = op + x * 12 + 9 by omega] at this; exact this
      have cp10 : wr.cell? ⟨gp, op + x * 12 + 10, none⟩ = some (.int .i64 (PL (x * 12 + 10))) := by have := cp 10 (by omega); rw [show op + (x * 12 + 10) = op + x * 12 + 10 by omega] at this; exact this
      have cp11 : wr.cell? ⟨gp, op + x * 12 + 11, none⟩ = some (.int .i64 (PL (x * 12 + 11))) := by have := cp 11 (by omega); rw [show op + (x * 12 + 11) = op + x * 12 + 11 by omega] at this; exact this
      clear cp
      obtain ⟨q0, hq0⟩ : ∃ q, q = midN PL x 0 := ⟨_, rfl⟩
      obtain ⟨q1, hq1⟩ : ∃ q, q = midN PL x 1 := ⟨_, rfl⟩
      obtain ⟨q2, hq2⟩ : ∃ q, q = midN PL x 2 := ⟨_, rfl⟩
      have HMD := Lib.hid (fun (W : World) => show Calls Try.prog 39 #[.agg #[.int .i64 (min (PL (x * 12)) (PL (x * 12 + 6))), .int .i64 (min (PL (x * 12 + 1)) (PL (x * 12 + 7))), .int .i64 (min (PL (x * 12 + 2)) (PL (x * 12 + 8))), .int .i64 (max (PL (x * 12 + 3)) (PL (x * 12 + 9))), .int .i64 (max (PL (x * 12 + 4)) (PL (x * 12 + 10))), .int .i64 (max (PL (x * 12 + 5)) (PL (x * 12 + 11)))]] W fun e w' => e = .returned (.agg #[.int .i64 q0, .int .i64 q1, .int .i64 q2]) ∧ Below W.heap.size W w' from by rw [hq0, hq1, hq2]; exact bmiddle_any _ _ _ _ _ _ W)
      have HST := Lib.hid (show flat3m (mids PL l) (k + 1) = flat3m (mids PL l) k ++ [.int .i64 q0, .int .i64 q1, .int .i64 q2] by
        rw [flat3m_step, show mids PL l (k * 3) = midN PL (l.getD k 0) 0 from mids_at PL l k 0 (by omega), mids_at PL l k 1 (by omega), mids_at PL l k 2 (by omega), ← hx, ← hq0, ← hq1, ← hq2])
      clear hx hq0 hq1 hq2
      go_wp2_with (go_at_call 38; refine (Bx.whole_any _ _ _ _ _ _ _ _ _ _ _ _ _).mono ?_; rintro e w2 ⟨rfl, hb2⟩)
      refine (HMD.out _).mono ?_
      rintro e w3 ⟨rfl, hb3⟩
      have hb23 := hb2.trans (hb3.mono hb2.size)
      have HI := Lib.hid ((own_keep (w' := w3) HO.out fun q hq => hb23.block q (HO.out.lt q hq).2).alloc (.cells #[.int .i64 q0, .int .i64 q1, .int .i64 q2] 39))
      have HX1 := Lib.hid (show ∀ j u, ([.int .i64 q0, .int .i64 q1, .int .i64 q2] : List Value)[j]? = some u → (w3.alloc (.cells #[.int .i64 q0, .int .i64 q1, .int .i64 q2] 39)).cell? ((⟨w3.heap.size, 0, none⟩ : Addr).add j) = some u by
        intro j u hj
        match j, hj with
        | 0, hj => simp at hj; subst hj; simp [Addr.add]
        | 1, hj => simp at hj; subst hj; simp [Addr.add]
        | 2, hj => simp at hj; subst hj; simp [Addr.add])
      have HX2 := Lib.hid (show ∀ u ∈ ([.int .i64 q0, .int .i64 q1, .int .i64 q2] : List Value), u.oneCell' = true by intro u hu; simp only [List.mem_cons, List.not_mem_nil, or_false] at hu; rcases hu with rfl | rfl | rfl <;> rfl)
      have HB3 := Lib.hid (HB.out.trans (hb23.mono hbs))
      have hs3 := HB3.out.size
      clear cl cm cp0 cp1 cp2 cp3 cp4 cp5 cp6 cp7 cp8 cp9 cp10 cp11
      go_wp2_with (first | (at_builtin; refine wpList_append_own _ rfl _ _ 89 rfl w.heap.size 39 i0 (.agg #[.int .i64 0, .int .i64 0, .int .i64 0]) 3 24 Try.underlying89 hi hz0 hz1 hz2 rfl (by decide) _ _ _ rfl HI.out ⟨w3.heap.size, 0, none⟩ 1 1 [.int .i64 q0, .int .i64 q1, .int .i64 q2] rfl rfl HX1.out HX2.out ?c3 ?c4 ?c5 ?_))
      case c3 => unfold maxLen; omega
      case c4 => omega
      case c5 => (first | omega | (simp; omega))
      intro v2 w4 hown hgrow _
      have HB2 := Lib.hid ((HB3.out.alloc hs3 _).grown hgrow (by simp; omega) (fun q hq => (HO.out.lt q hq).1))
      rw [← HST.out] at hown
      have HO2 := Lib.hid hown
      clear hown hgrow HST HX1 HX2 HI hb2 hb3 hb23
      go_wp2_with fail
      go_roundw
      case rel => exact ⟨k + 1, by omega, by go_num, HO2, HB2⟩
      case measure => simp [intOf]; omega
    · have hkm : k = m + 1 := by omega
      subst hkm
      have hnl : ¬ ((m + 1 : Nat) : Int) < ((m + 1 : Nat) : Int) := by omega
      clear hlt' hk
      go_upto_region 7 with fail
      obtain ⟨y5, rfl⟩ : ∃ y : World, y = wr := ⟨_, rfl⟩
      rcases HO.out.2 with ⟨hv, h0⟩ | ⟨gb, cap, cur, hv, hgb, hcur, hncap, -, -, htake⟩
      · omega
      subst hv
      have HCU := Lib.hid (show ∀ j, j < (m + 1) * 3 → cur[j]? = some (.int .i64 (mids PL l j)) from fun j hj => by
        have a := HO.out.cellAt j hj
        rw [cell_of_row _ _ j _ _ _ hcur] at a
        exact a.trans (flat3m_at _ _ _ hj))
      have HU5 := Lib.hid HB.out
      have hr5_0 := (HB.out.block mb hml).trans HMB.out
      have hr5_1 := hcur
      have HC5 := Lib.hid hcur
      have hs5 := HU5.out.size
      have hgb5 := lt_heap hcur
      clear hcur htake
      obtain ⟨b0_, hb0_⟩ : ∃ b, b = lo (mids PL l) 0 (m + 1) := ⟨_, rfl⟩
      obtain ⟨b1_, hb1_⟩ : ∃ b, b = lo (mids PL l) 1 (m + 1) := ⟨_, rfl⟩
      obtain ⟨b2_, hb2_⟩ : ∃ b, b = lo (mids PL l) 2 (m + 1) := ⟨_, rfl⟩
      obtain ⟨b3_, hb3_⟩ : ∃ b, b = hig (mids PL l) 0 (m + 1) := ⟨_, rfl⟩
      obtain ⟨b4_, hb4_⟩ : ∃ b, b = hig (mids PL l) 1 (m + 1) := ⟨_, rfl⟩
      obtain ⟨b5_, hb5_⟩ : ∃ b, b = hig (mids PL l) 2 (m + 1) := ⟨_, rfl⟩
      obtain ⟨s0_, hs0_⟩ : ∃ b, b = Pl.sub b3_ b0_ := ⟨_, rfl⟩
      obtain ⟨s1_, hs1_⟩ : ∃ b, b = Pl.sub b4_ b1_ := ⟨_, rfl⟩
      obtain ⟨s2_, hs2_⟩ : ∃ b, b = Pl.sub b5_ b2_ := ⟨_, rfl⟩
      have hlw : ∀ i, lowM PL l i = lo (mids PL l) i (m + 1) := fun i => by unfold lowM; rw [HMM.out]
      have hwd : ∀ i, wideM PL l i = Pl.sub (hig (mids PL l) i (m + 1)) (lo (mids PL l) i (m + 1)) := fun i => by unfold wideM; rw [HMM.out]
      have hax : ((axisN PL l : Nat) : Int) = widest (Pl.amount s0_) (Pl.amount s1_) (Pl.amount s2_) := by rw [axis_int, hwd, hwd, hwd, hs0_, hs1_, hs2_, hb0_, hb1_, hb2_, hb3_, hb4_, hb5_]
      have hl3 := axis_lt PL l
      obtain ⟨ax, hxx⟩ : ∃ a, a = axisN PL l := ⟨_, rfl⟩
      rw [← hxx] at hax hl3
      obtain ⟨low, hlow⟩ : ∃ a, a = lowM PL l ax := ⟨_, rfl⟩
      obtain ⟨wide, hwide⟩ : ∃ a, a = wideM PL l ax := ⟨_, rfl⟩
      have HSZ := Lib.hid (fun (W : World) => show Calls Try.prog 41 #[.agg #[.int .i64 b0_, .int .i64 b1_, .int .i64 b2_, .int .i64 b3_, .int .i64 b4_, .int .i64 b5_]] W fun e w' => e = .returned (.agg #[.int .i64 s0_, .int .i64 s1_, .int .i64 s2_]) ∧ Below W.heap.size W w' from by rw [hs0_, hs1_, hs2_]; exact bsize_any _ _ _ _ _ _ W)
      have HWI := Lib.hid (fun (W : World) => show Calls Try.prog 42 #[.agg #[.int .i64 s0_, .int .i64 s1_, .int .i64 s2_]] W fun e w' => e = .returned (.int .i64 (ax : Int)) ∧ Below W.heap.size W w' from by rw [hax]; exact vwidest_any _ _ _ W)
      have HA1 := Lib.hid (fun (W : World) => show Calls Try.prog 43 #[.agg #[.int .i64 b0_, .int .i64 b1_, .int .i64 b2_], .int .i64 (ax : Int)] W fun e w' => e = .returned (.int .i64 low) ∧ Below W.heap.size W w' from by rw [hlow, hlw, ← pick3 (fun i => lo (mids PL l) i (m + 1)) ax hl3, ← hb0_, ← hb1_, ← hb2_]; exact at_any _ _ _ _ W)
      have HA2 := Lib.hid (fun (W : World) => show Calls Try.prog 43 #[.agg #[.int .i64 s0_, .int .i64 s1_, .int .i64 s2_], .int .i64 (ax : Int)] W fun e w' => e = .returned (.int .i64 wide) ∧ Below W.heap.size W w' from by rw [hwide, ← pick3 (fun i => wideM PL l i) ax hl3, hwd, hwd, hwd, ← hb0_, ← hb1_, ← hb2_, ← hb3_, ← hb4_, ← hb5_, ← hs0_, ← hs1_, ← hs2_]; exact at_any _ _ _ _ W)
      have HA3 := Lib.hid (fun (k : Nat) (W : World) => show Calls Try.prog 43 #[.agg #[.int .i64 (mids PL l (k * 3)), .int .i64 (mids PL l (k * 3 + 1)), .int .i64 (mids PL l (k * 3 + 2))], .int .i64 (ax : Int)] W fun e w' => e = .returned (.int .i64 (midN PL (l.getD k 0) ax)) ∧ Below W.heap.size W w' from by rw [← pick3 (fun i => midN PL (l.getD k 0) i) ax hl3, show mids PL l (k * 3) = midN PL (l.getD k 0) 0 from mids_at PL l k 0 (by omega), mids_at PL l k 1 (by omega), mids_at PL l k 2 (by omega)]; exact at_any _ _ _ _ W)
      have HOF := Lib.hid (fun (o c : Nat) (ho : m + 1 = 1 ∨ o = 3) (W : World) (hg : gb < W.heap.size) (hW : ∀ j, j < (m + 1) * 3 → W.cell? ⟨gb, j, none⟩ = some (.int .i64 (mids PL l j))) => show Calls Try.prog 40 #[.agg #[.int .i64 (mids PL l 0), .int .i64 (mids PL l 1), .int .i64 (mids PL l 2)], .slice (some ⟨gb, o, none⟩) m c] W fun e w' => e = .returned (.agg #[.int .i64 b0_, .int .i64 b1_, .int .i64 b2_, .int .i64 b3_, .int .i64 b4_, .int .i64 b5_]) ∧ Below W.heap.size W w' from by rw [hb0_, hb1_, hb2_, hb3_, hb4_, hb5_]; exact of_list gb o (m + 1) c ho (mids PL l) (by omega) (by omega) W hg hW)
      have HPT := Lib.hid (show ∀ k, partOf PL l k = min (Pl.held (Pl.mul (Pl.div (Pl.sub (midN PL (l.getD k 0) ax) low) wide) (Pl.ofWhole 8)) / 65536) 7 from fun k => by rw [eight, part_same]; unfold partOf; rw [← hxx, hlow, hwide])
      have hax2 : (ax : Int) < 3 := by omega
      clear hb0_ hb1_ hb2_ hb3_ hb4_ hb5_ hs0_ hs1_ hs2_ hlw hwd hax hxx hlow hwide
  
      go_cut [8] (fun s8 wx => ∃ q : Nat, s8 = .pointer (some ⟨q, 0, none⟩) ∧ wx.heap[mb]? = some (.cells #[nw, ow, .slice (some ⟨gp, op, none⟩) N pc] 58 (0, 0)) ∧ wx.heap[gb]? = some (.cells cur 39 (0, 0)) ∧ wx.heap[q]? = some (.cells #[.int .i64 b0_, .int .i64 b1_, .int .i64 b2_, .int .i64 b3_, .int .i64 b4_, .int .i64 b5_] 41 (0, 0)) ∧ Hid (Below w.heap.size w wx))
      case first =>
        by_cases hcap : cap = 1
        · have hm0 : m = 0 := by omega
          subst hcap
          subst hm0
          refine wp_region_held_drew (S := fun y => y.heap[mb]? = some (.cells #[nw, ow, .slice (some ⟨gp, op, none⟩) N pc] 58 (0, 0)) ∧ y.heap[gb]? = some (.cells cur 39 (0, 0))) (by kernel_rfl) (⟨hr5_0, hr5_1⟩) (fun hS0 => ?_)
          obtain ⟨y6, hy6⟩ : ∃ y, y5.drew = y := ⟨_, rfl⟩
          have HU6 := Lib.hid (show Below w.heap.size w y6 by rw [← hy6]; exact HU5.out.drew)
          have hr6_0 : y6.heap[mb]? = some (.cells #[nw, ow, .slice (some ⟨gp, op, none⟩) N pc] 58 (0, 0)) := by rw [← hy6]; exact hr5_0
          have hr6_1 : y6.heap[gb]? = some (.cells cur 39 (0, 0)) := by rw [← hy6]; exact hr5_1
          rw [hy6] at hS0 ⊢
          clear hy6
          refine wpAnyH_take (i := 0) (v := ?_) rfl (by kernel_rfl) (by kernel_rfl) (by kernel_rfl) (fun _ _ _ h => h) (Or.inl ⟨by kernel_rfl, by (intro wz hSz; go_simp; try with_reducible rfl)⟩) hS0 ?_
          go_simp
          refine wpAnyH_take (i := 1) (v := ?_) rfl (by kernel_rfl) (by kernel_rfl) (by kernel_rfl) (fun _ _ _ h => h) (Or.inl ⟨by kernel_rfl, by (intro wz hSz; go_simp; try with_reducible rfl)⟩) hS0 ?_
          go_simp
          refine wpAnyH_take (i := 2) (v := ?_) rfl (by kernel_rfl) (by kernel_rfl) (by kernel_rfl) (fun _ _ _ h => h) (Or.inl ⟨by kernel_rfl, by (intro wz hSz; have c0_0 := cell_of_row _ _ 0 _ _ _ hSz.1; have c0_1 := cell_of_row _ _ 1 _ _ _ hSz.1; have c0_2 := cell_of_row _ _ 2 _ _ _ hSz.1; simp at c0_0 c0_1 c0_2; have q0 := (cell_of_row _ _ 0 _ _ _ hSz.2).trans (HCU.out 0 (by omega)); have q1 := (cell_of_row _ _ 1 _ _ _ hSz.2).trans (HCU.out 1 (by omega)); have q2 := (cell_of_row _ _ 2 _ _ _ hSz.2).trans (HCU.out 2 (by omega)); go_simp; try with_reducible rfl)⟩) hS0 ?_
          go_simp
          refine wpAnyH_take (i := 3) (v := ?_) rfl (by kernel_rfl) (by kernel_rfl) (by kernel_rfl) (fun _ _ _ h => h) (Or.inl ⟨by kernel_rfl, by (intro wz hSz; go_simp; try with_reducible rfl)⟩) hS0 ?_
          go_simp
          refine wpAnyH_take (i := 4) (v := ?_) rfl (by kernel_rfl) (by kernel_rfl) (by kernel_rfl) (fun _ _ _ h => h) (Or.inl ⟨by kernel_rfl, by (intro wz hSz; go_simp; try with_reducible rfl)⟩) hS0 ?_
          go_simp
          refine wpAnyH_ready (rs := [5, 6]) (by kernel_rfl) (by simp) ?_
          refine AllReadyH.cons rfl (fun K hK => ?_) (AllReadyH.cons rfl (fun K hK => ?_) AllReadyH.nil)
          · skip
            go_simp
            go_wp2_with (go_at_call 40; refine (HOF.out _ _ (by omega) _ (lt_heap hr6_1) (fun j hj => (cell_of_row _ _ j _ _ _ hr6_1).trans (HCU.out j hj))).mono ?_; rintro e y7 ⟨rfl, hb7⟩)
            have hr7_0 := (hb7.block _ (lt_heap hr6_0)).trans hr6_0
            have hr7_1 := (hb7.block _ (lt_heap hr6_1)).trans hr6_1
            have HU7 := Lib.hid (HU6.out.trans (hb7.mono HU6.out.size))
            refine hK.out _ _ (⟨(hb7.block _ (lt_heap hS0.1)).trans hS0.1, (hb7.block _ (lt_heap hS0.2)).trans hS0.2⟩) (fun hS7c => ?_)
            clear hK K
            refine wpAnyH_ready (rs := [6]) (by kernel_rfl) (by simp) ?_
            refine AllReadyH.cons rfl (fun K hK => ?_) AllReadyH.nil
            go_simp
            have hb8 := below_n1 y7 (.cells #[.int .i64 0, .int .i64 0, .int .i64 0, .int .i64 0, .int .i64 0, .int .i64 0] 41)
            have hN := heap_alloc_last y7 (.cells #[.int .i64 0, .int .i64 0, .int .i64 0, .int .i64 0, .int .i64 0, .int .i64 0] 41)
            obtain ⟨y8, hy8⟩ : ∃ y, y7.alloc (.cells #[.int .i64 0, .int .i64 0, .int .i64 0, .int .i64 0, .int .i64 0, .int .i64 0] 41) = y := ⟨_, rfl⟩
            rw [hy8] at hb8 hN ⊢
            clear hy8
            have hl8_0 := lt_heap hr7_0
            have hr8_0 := (hb8.block _ (lt_heap hr7_0)).trans hr7_0
            have hl8_1 := lt_heap hr7_1
            have hr8_1 := (hb8.block _ (lt_heap hr7_1)).trans hr7_1
            have hr8_2 := hN
            clear hN
            have HU8 := Lib.hid (HU7.out.trans (hb8.mono HU7.out.size))
            refine hK.out _ _ (⟨(hb8.block _ (lt_heap hS7c.1)).trans hS7c.1, (hb8.block _ (lt_heap hS7c.2)).trans hS7c.2⟩) (fun hS8a => ?_)
            clear hK K
            refine wpAnyH_ready (rs := [7]) (by kernel_rfl) (by simp) ?_
            refine AllReadyH.cons rfl (fun K hK => ?_) AllReadyH.nil
            refine step_store_row rfl 41 (.tmp 8) (.tmp 41) rfl #[.int .i64 0, .int .i64 0, .int .i64 0, .int .i64 0, .int .i64 0, .int .i64 0] #[.int .i64 b0_, .int .i64 b1_, .int .i64 b2_, .int .i64 b3_, .int .i64 b4_, .int .i64 b5_] _ 41 hr8_2 rfl (by first | rfl | (go_simp; done) | (go_simp; rfl)) (by kernel_rfl) rfl (by simp [Value.oneCell']) ?_
            have hN := setRow_heap _ (y7.heap.size) _ #[.int .i64 b0_, .int .i64 b1_, .int .i64 b2_, .int .i64 b3_, .int .i64 b4_, .int .i64 b5_] _ _ hr8_2
            have hsz := HU8.out.size
            have HUx := below_setRow (g := y7.heap.size) HU8.out (by first | omega | (simp at *; omega)) #[.int .i64 b0_, .int .i64 b1_, .int .i64 b2_, .int .i64 b3_, .int .i64 b4_, .int .i64 b5_]
            obtain ⟨y9, hy9⟩ : ∃ y, y8.setRow (y7.heap.size) #[.int .i64 b0_, .int .i64 b1_, .int .i64 b2_, .int .i64 b3_, .int .i64 b4_, .int .i64 b5_] = y := ⟨_, rfl⟩
            have hO : ∀ k, k ≠ y7.heap.size → y9.heap[k]? = y8.heap[k]? := fun k hk => by rw [← hy9]; exact setRow_other _ _ _ _ hk
            rw [hy9] at hN HUx ⊢
            clear hy9
            have HU9 := Lib.hid HUx
            clear HUx
            have hr9_0 := (hO _ (by omega)).trans hr8_0
            have hr9_1 := (hO _ (by omega)).trans hr8_1
            have hr9_2 := hN
            clear hN
            refine hK.out _ _ (⟨(hO _ (by omega)).trans hS8a.1, (hO _ (by omega)).trans hS8a.2⟩) (fun hS9s => ?_)
            clear hK K
            refine wpAnyH_done (by kernel_rfl) ?_ _
            go_wp2_with fail
            go_meet
            exact ⟨_, rfl, hr9_0, hr9_1, hr9_2, HU9⟩
          · skip
            go_simp
            have hb7 := below_n1 y6 (.cells #[.int .i64 0, .int .i64 0, .int .i64 0, .int .i64 0, .int .i64 0, .int .i64 0] 41)
            have hN := heap_alloc_last y6 (.cells #[.int .i64 0, .int .i64 0, .int .i64 0, .int .i64 0, .int .i64 0, .int .i64 0] 41)
            obtain ⟨y7, hy7⟩ : ∃ y, y6.alloc (.cells #[.int .i64 0, .int .i64 0, .int .i64 0, .int .i64 0, .int .i64 0, .int .i64 0] 41) = y := ⟨_, rfl⟩
            rw [hy7] at hb7 hN ⊢
            clear hy7
            have hl7_0 := lt_heap hr6_0
            have hr7_0 := (hb7.block _ (lt_heap hr6_0)).trans hr6_0
            have hl7_1 := lt_heap hr6_1
            have hr7_1 := (hb7.block _ (lt_heap hr6_1)).trans hr6_1
            have hr7_2 := hN
            clear hN
            have HU7 := Lib.hid (HU6.out.trans (hb7.mono HU6.out.size))
            refine hK.out _ _ (⟨(hb7.block _ (lt_heap hS0.1)).trans hS0.1, (hb7.block _ (lt_heap hS0.2)).trans hS0.2⟩) (fun hS7a => ?_)
            clear hK K
            refine wpAnyH_ready (rs := [5]) (by kernel_rfl) (by simp) ?_
            refine AllReadyH.cons rfl (fun K hK => ?_) AllReadyH.nil
            go_simp
            go_wp2_with (go_at_call 40; refine (HOF.out _ _ (by omega) _ (lt_heap hr7_1) (fun j hj => (cell_of_row _ _ j _ _ _ hr7_1).trans (HCU.out j hj))).mono ?_; rintro e y8 ⟨rfl, hb8⟩)
            have hr8_0 := (hb8.block _ (lt_heap hr7_0)).trans hr7_0
            have hr8_1 := (hb8.block _ (lt_heap hr7_1)).trans hr7_1
            have hr8_2 := (hb8.block _ (lt_heap hr7_2)).trans hr7_2
            have HU8 := Lib.hid (HU7.out.trans (hb8.mono HU7.out.size))
            refine hK.out _ _ (⟨(hb8.block _ (lt_heap hS7a.1)).trans hS7a.1, (hb8.block _ (lt_heap hS7a.2)).trans hS7a.2⟩) (fun hS8c => ?_)
            clear hK K
            refine wpAnyH_ready (rs := [7]) (by kernel_rfl) (by simp) ?_
            refine AllReadyH.cons rfl (fun K hK => ?_) AllReadyH.nil
            refine step_store_row rfl 41 (.tmp 8) (.tmp 41) rfl #[.int .i64 0, .int .i64 0, .int .i64 0, .int .i64 0, .int .i64 0, .int .i64 0] #[.int .i64 b0_, .int .i64 b1_, .int .i64 b2_, .int .i64 b3_, .int .i64 b4_, .int .i64 b5_] _ 41 hr8_2 rfl (by first | rfl | (go_simp; done) | (go_simp; rfl)) (by kernel_rfl) rfl (by simp [Value.oneCell']) ?_
            have hN := setRow_heap _ (y6.heap.size) _ #[.int .i64 b0_, .int .i64 b1_, .int .i64 b2_, .int .i64 b3_, .int .i64 b4_, .int .i64 b5_] _ _ hr8_2
            have hsz := HU8.out.size
            have HUx := below_setRow (g := y6.heap.size) HU8.out (by first | omega | (simp at *; omega)) #[.int .i64 b0_, .int .i64 b1_, .int .i64 b2_, .int .i64 b3_, .int .i64 b4_, .int .i64 b5_]
            obtain ⟨y9, hy9⟩ : ∃ y, y8.setRow (y6.heap.size) #[.int .i64 b0_, .int .i64 b1_, .int .i64 b2_, .int .i64 b3_, .int .i64 b4_, .int .i64 b5_] = y := ⟨_, rfl⟩
            have hO : ∀ k, k ≠ y6.heap.size → y9.heap[k]? = y8.heap[k]? := fun k hk => by rw [← hy9]; exact setRow_other _ _ _ _ hk
            rw [hy9] at hN HUx ⊢
            clear hy9
            have HU9 := Lib.hid HUx
            clear HUx
            have hr9_0 := (hO _ (by omega)).trans hr8_0
            have hr9_1 := (hO _ (by omega)).trans hr8_1
            have hr9_2 := hN
            clear hN
            refine hK.out _ _ (⟨(hO _ (by omega)).trans hS8c.1, (hO _ (by omega)).trans hS8c.2⟩) (fun hS9s => ?_)
            clear hK K
            refine wpAnyH_done (by kernel_rfl) ?_ _
            go_wp2_with fail
            go_meet
            exact ⟨_, rfl, hr9_0, hr9_1, hr9_2, HU9⟩
        · obtain ⟨c2, hc2⟩ : ∃ c2, cap = c2 + 1 + 1 := ⟨cap - 2, by omega⟩
          subst hc2
          have hmc : m ≤ c2 + 1 := by omega
          have hle1 : (1 : Int) ≤ (m : Int) + 1 := by omega
          refine wp_region_held_drew (S := fun y => y.heap[mb]? = some (.cells #[nw, ow, .slice (some ⟨gp, op, none⟩) N pc] 58 (0, 0)) ∧ y.heap[gb]? = some (.cells cur 39 (0, 0))) (by kernel_rfl) (⟨hr5_0, hr5_1⟩) (fun hS0 => ?_)
          obtain ⟨y6, hy6⟩ : ∃ y, y5.drew = y := ⟨_, rfl⟩
          have HU6 := Lib.hid (show Below w.heap.size w y6 by rw [← hy6]; exact HU5.out.drew)
          have hr6_0 : y6.heap[mb]? = some (.cells #[nw, ow, .slice (some ⟨gp, op, none⟩) N pc] 58 (0, 0)) := by rw [← hy6]; exact hr5_0
          have hr6_1 : y6.heap[gb]? = some (.cells cur 39 (0, 0)) := by rw [← hy6]; exact hr5_1
          rw [hy6] at hS0 ⊢
          clear hy6
          refine wpAnyH_take (i := 0) (v := ?_) rfl (by kernel_rfl) (by kernel_rfl) (by kernel_rfl) (fun _ _ _ h => h) (Or.inl ⟨by kernel_rfl, by (intro wz hSz; go_simp; try with_reducible rfl)⟩) hS0 ?_
          go_simp
          refine wpAnyH_take (i := 1) (v := ?_) rfl (by kernel_rfl) (by kernel_rfl) (by kernel_rfl) (fun _ _ _ h => h) (Or.inl ⟨by kernel_rfl, by (intro wz hSz; go_simp; try with_reducible rfl)⟩) hS0 ?_
          go_simp
          refine wpAnyH_take (i := 2) (v := ?_) rfl (by kernel_rfl) (by kernel_rfl) (by kernel_rfl) (fun _ _ _ h => h) (Or.inl ⟨by kernel_rfl, by (intro wz hSz; have c0_0 := cell_of_row _ _ 0 _ _ _ hSz.1; have c0_1 := cell_of_row _ _ 1 _ _ _ hSz.1; have c0_2 := cell_of_row _ _ 2 _ _ _ hSz.1; simp at c0_0 c0_1 c0_2; have q0 := (cell_of_row _ _ 0 _ _ _ hSz.2).trans (HCU.out 0 (by omega)); have q1 := (cell_of_row _ _ 1 _ _ _ hSz.2).trans (HCU.out 1 (by omega)); have q2 := (cell_of_row _ _ 2 _ _ _ hSz.2).trans (HCU.out 2 (by omega)); go_simp; try with_reducible rfl)⟩) hS0 ?_
          go_simp
          refine wpAnyH_take (i := 3) (v := ?_) rfl (by kernel_rfl) (by kernel_rfl) (by kernel_rfl) (fun _ _ _ h => h) (Or.inl ⟨by kernel_rfl, by (intro wz hSz; go_simp; try with_reducible rfl)⟩) hS0 ?_
          go_simp
          refine wpAnyH_take (i := 4) (v := ?_) rfl (by kernel_rfl) (by kernel_rfl) (by kernel_rfl) (fun _ _ _ h => h) (Or.inl ⟨by kernel_rfl, by (intro wz hSz; go_simp; try with_reducible rfl)⟩) hS0 ?_
          go_simp
          refine wpAnyH_ready (rs := [5, 6]) (by kernel_rfl) (by simp) ?_
          refine AllReadyH.cons rfl (fun K hK => ?_) (AllReadyH.cons rfl (fun K hK => ?_) AllReadyH.nil)
          · skip
            go_simp
            go_wp2_with (go_at_call 40; refine (HOF.out _ _ (by omega) _ (lt_heap hr6_1) (fun j hj => (cell_of_row _ _ j _ _ _ hr6_1).trans (HCU.out j hj))).mono ?_; rintro e y7 ⟨rfl, hb7⟩)
            have hr7_0 := (hb7.block _ (lt_heap hr6_0)).trans hr6_0
            have hr7_1 := (hb7.block _ (lt_heap hr6_1)).trans hr6_1
            have HU7 := Lib.hid (HU6.out.trans (hb7.mono HU6.out.size))
            refine hK.out _ _ (⟨(hb7.block _ (lt_heap hS0.1)).trans hS0.1, (hb7.block _ (lt_heap hS0.2)).trans hS0.2⟩) (fun hS7c => ?_)
            clear hK K
            refine wpAnyH_ready (rs := [6]) (by kernel_rfl) (by simp) ?_
            refine AllReadyH.cons rfl (fun K hK => ?_) AllReadyH.nil
            go_simp
            have hb8 := below_n1 y7 (.cells #[.int .i64 0, .int .i64 0, .int .i64 0, .int .i64 0, .int .i64 0, .int .i64 0] 41)
            have hN := heap_alloc_last y7 (.cells #[.int .i64 0, .int .i64 0, .int .i64 0, .int .i64 0, .int .i64 0, .int .i64 0] 41)
            obtain ⟨y8, hy8⟩ : ∃ y, y7.alloc (.cells #[.int .i64 0, .int .i64 0, .int .i64 0, .int .i64 0, .int .i64 0, .int .i64 0] 41) = y := ⟨_, rfl⟩
            rw [hy8] at hb8 hN ⊢
            clear hy8
            have hl8_0 := lt_heap hr7_0
            have hr8_0 := (hb8.block _ (lt_heap hr7_0)).trans hr7_0
            have hl8_1 := lt_heap hr7_1
            have hr8_1 := (hb8.block _ (lt_heap hr7_1)).trans hr7_1
            have hr8_2 := hN
            clear hN
            have HU8 := Lib.hid (HU7.out.trans (hb8.mono HU7.out.size))
            refine hK.out _ _ (⟨(hb8.block _ (lt_heap hS7c.1)).trans hS7c.1, (hb8.block _ (lt_heap hS7c.2)).trans hS7c.2⟩) (fun hS8a => ?_)
            clear hK K
            refine wpAnyH_ready (rs := [7]) (by kernel_rfl) (by simp) ?_
            refine AllReadyH.cons rfl (fun K hK => ?_) AllReadyH.nil
            refine step_store_row rfl 41 (.tmp 8) (.tmp 41) rfl #[.int .i64 0, .int .i64 0, .int .i64 0, .int .i64 0, .int .i64 0, .int .i64 0] #[.int .i64 b0_, .int .i64 b1_, .int .i64 b2_, .int .i64 b3_, .int .i64 b4_, .int .i64 b5_] _ 41 hr8_2 rfl (by first | rfl | (go_simp; done) | (go_simp; rfl)) (by kernel_rfl) rfl (by simp [Value.oneCell']) ?_
            have hN := setRow_heap _ (y7.heap.size) _ #[.int .i64 b0_, .int .i64 b1_, .int .i64 b2_, .int .i64 b3_, .int .i64 b4_, .int .i64 b5_] _ _ hr8_2
            have hsz := HU8.out.size
            have HUx := below_setRow (g := y7.heap.size) HU8.out (by first | omega | (simp at *; omega)) #[.int .i64 b0_, .int .i64 b1_, .int .i64 b2_, .int .i64 b3_, .int .i64 b4_, .int .i64 b5_]
            obtain ⟨y9, hy9⟩ : ∃ y, y8.setRow (y7.heap.size) #[.int .i64 b0_, .int .i64 b1_, .int .i64 b2_, .int .i64 b3_, .int .i64 b4_, .int .i64 b5_] = y := ⟨_, rfl⟩
            have hO : ∀ k, k ≠ y7.heap.size → y9.heap[k]? = y8.heap[k]? := fun k hk => by rw [← hy9]; exact setRow_other _ _ _ _ hk
            rw [hy9] at hN HUx ⊢
            clear hy9
            have HU9 := Lib.hid HUx
            clear HUx
            have hr9_0 := (hO _ (by omega)).trans hr8_0
            have hr9_1 := (hO _ (by omega)).trans hr8_1
            have hr9_2 := hN
            clear hN
            refine hK.out _ _ (⟨(hO _ (by omega)).trans hS8a.1, (hO _ (by omega)).trans hS8a.2⟩) (fun hS9s => ?_)
            clear hK K
            refine wpAnyH_done (by kernel_rfl) ?_ _
            go_wp2_with fail
            go_meet
            exact ⟨_, rfl, hr9_0, hr9_1, hr9_2, HU9⟩
          · skip
            go_simp
            have hb7 := below_n1 y6 (.cells #[.int .i64 0, .int .i64 0, .int .i64 0, .int .i64 0, .int .i64 0, .int .i64 0] 41)
            have hN := heap_alloc_last y6 (.cells #[.int .i64 0, .int .i64 0, .int .i64 0, .int .i64 0, .int .i64 0, .int .i64 0] 41)
            obtain ⟨y7, hy7⟩ : ∃ y, y6.alloc (.cells #[.int .i64 0, .int .i64 0, .int .i64 0, .int .i64 0, .int .i64 0, .int .i64 0] 41) = y := ⟨_, rfl⟩
            rw [hy7] at hb7 hN ⊢
            clear hy7
            have hl7_0 := lt_heap hr6_0
            have hr7_0 := (hb7.block _ (lt_heap hr6_0)).trans hr6_0
            have hl7_1 := lt_heap hr6_1
            have hr7_1 := (hb7.block _ (lt_heap hr6_1)).trans hr6_1
            have hr7_2 := hN
            clear hN
            have HU7 := Lib.hid (HU6.out.trans (hb7.mono HU6.out.size))
            refine hK.out _ _ (⟨(hb7.block _ (lt_heap hS0.1)).trans hS0.1, (hb7.block _ (lt_heap hS0.2)).trans hS0.2⟩) (fun hS7a => ?_)
            clear hK K
            refine wpAnyH_ready (rs := [5]) (by kernel_rfl) (by simp) ?_
            refine AllReadyH.cons rfl (fun K hK => ?_) AllReadyH.nil
            go_simp
            go_wp2_with (go_at_call 40; refine (HOF.out _ _ (by omega) _ (lt_heap hr7_1) (fun j hj => (cell_of_row _ _ j _ _ _ hr7_1).trans (HCU.out j hj))).mono ?_; rintro e y8 ⟨rfl, hb8⟩)
            have hr8_0 := (hb8.block _ (lt_heap hr7_0)).trans hr7_0
            have hr8_1 := (hb8.block _ (lt_heap hr7_1)).trans hr7_1
            have hr8_2 := (hb8.block _ (lt_heap hr7_2)).trans hr7_2
            have HU8 := Lib.hid (HU7.out.trans (hb8.mono HU7.out.size))
            refine hK.out _ _ (⟨(hb8.block _ (lt_heap hS7a.1)).trans hS7a.1, (hb8.block _ (lt_heap hS7a.2)).trans hS7a.2⟩) (fun hS8c => ?_)
            clear hK K
            refine wpAnyH_ready (rs := [7]) (by kernel_rfl) (by simp) ?_
            refine AllReadyH.cons rfl (fun K hK => ?_) AllReadyH.nil
            refine step_store_row rfl 41 (.tmp 8) (.tmp 41) rfl #[.int .i64 0, .int .i64 0, .int .i64 0, .int .i64 0, .int .i64 0, .int .i64 0] #[.int .i64 b0_, .int .i64 b1_, .int .i64 b2_, .int .i64 b3_, .int .i64 b4_, .int .i64 b5_] _ 41 hr8_2 rfl (by first | rfl | (go_simp; done) | (go_simp; rfl)) (by kernel_rfl) rfl (by simp [Value.oneCell']) ?_
            have hN := setRow_heap _ (y6.heap.size) _ #[.int .i64 b0_, .int .i64 b1_, .int .i64 b2_, .int .i64 b3_, .int .i64 b4_, .int .i64 b5_] _ _ hr8_2
            have hsz := HU8.out.size
            have HUx := below_setRow (g := y6.heap.size) HU8.out (by first | omega | (simp at *; omega)) #[.int .i64 b0_, .int .i64 b1_, .int .i64 b2_, .int .i64 b3_, .int .i64 b4_, .int .i64 b5_]
            obtain ⟨y9, hy9⟩ : ∃ y, y8.setRow (y6.heap.size) #[.int .i64 b0_, .int .i64 b1_, .int .i64 b2_, .int .i64 b3_, .int .i64 b4_, .int .i64 b5_] = y := ⟨_, rfl⟩
            have hO : ∀ k, k ≠ y6.heap.size → y9.heap[k]? = y8.heap[k]? := fun k hk => by rw [← hy9]; exact setRow_other _ _ _ _ hk
            rw [hy9] at hN HUx ⊢
            clear hy9
            have HU9 := Lib.hid HUx
            clear HUx
            have hr9_0 := (hO _ (by omega)).trans hr8_0
            have hr9_1 := (hO _ (by omega)).trans hr8_1
            have hr9_2 := hN
            clear hN
            refine hK.out _ _ (⟨(hO _ (by omega)).trans hS8c.1, (hO _ (by omega)).trans hS8c.2⟩) (fun hS9s => ?_)
            clear hK K
            refine wpAnyH_done (by kernel_rfl) ?_ _
            go_wp2_with fail
            go_meet
            exact ⟨_, rfl, hr9_0, hr9_1, hr9_2, HU9⟩
      case rest =>
        obtain ⟨qb, rfl, hr20_0, hr20_1, hr20_2, HU20⟩ := hcut
        obtain ⟨y20, rfl⟩ : ∃ y : World, y = wc := ⟨_, rfl⟩
        clear hr5_0 hr5_1 HU5 HC5 hs5 hgb5
        have c2_0 := cell_of_row _ _ 0 _ _ _ hr20_2
        have c2_1 := cell_of_row _ _ 1 _ _ _ hr20_2
        have c2_2 := cell_of_row _ _ 2 _ _ _ hr20_2
        have c2_3 := cell_of_row _ _ 3 _ _ _ hr20_2
        have c2_4 := cell_of_row _ _ 4 _ _ _ hr20_2
        have c2_5 := cell_of_row _ _ 5 _ _ _ hr20_2
        simp at c2_0 c2_1 c2_2 c2_3 c2_4 c2_5
        go_wp2_with fail
        refine (HSZ.out _).mono ?_
        rintro e y21 ⟨rfl, hb21⟩
        clear c2_0 c2_1 c2_2 c2_3 c2_4 c2_5
        have hr21_0 := (hb21.block _ (lt_heap hr20_0)).trans hr20_0
        have hr21_1 := (hb21.block _ (lt_heap hr20_1)).trans hr20_1
        have hr21_2 := (hb21.block _ (lt_heap hr20_2)).trans hr20_2
        have HU21 := Lib.hid (HU20.out.trans (hb21.mono HU20.out.size))
        clear hr20_0 hr20_1 hr20_2 HU20
        have HA := Lib.hid (heap_alloc_last y21 (.cells #[.int .i64 0, .int .i64 0, .int .i64 0] 39))
        have hHi := Lib.hid (show (Try.prog.info? 39).map (·.size) = some (#[.int .i64 s0_, .int .i64 s1_, .int .i64 s2_] : Array Value).size by kernel_rfl)
        have hHz := Lib.hid (show (#[.int .i64 0, .int .i64 0, .int .i64 0] : Array Value).size = (#[.int .i64 s0_, .int .i64 s1_, .int .i64 s2_] : Array Value).size from rfl)
        have hHo := Lib.hid (show (#[.int .i64 s0_, .int .i64 s1_, .int .i64 s2_] : Array Value).all (·.oneCell') = true by simp [Value.oneCell'])
        go_upto_region 9 with (refine Au.wpList_store_row rfl 39 (.tmp 9) (.tmp 43) rfl (y21.alloc (.cells #[.int .i64 0, .int .i64 0, .int .i64 0] 39)) #[.int .i64 0, .int .i64 0, .int .i64 0] #[.int .i64 s0_, .int .i64 s1_, .int .i64 s2_] (y21.heap.size) 39 HA.out rfl rfl hHi.out hHz.out hHo.out ?_)
        clear hHi hHz hHo
        have hN := setRow_heap _ (y21.heap.size) _ #[.int .i64 s0_, .int .i64 s1_, .int .i64 s2_] _ _ HA.out
        clear HA
        have hsz := HU21.out.size
        have hb := below_n1 y21 (.cells #[.int .i64 0, .int .i64 0, .int .i64 0] 39)
        have HUx := below_setRow (g := y21.heap.size) (HU21.out.trans (hb.mono HU21.out.size)) (by omega) #[.int .i64 s0_, .int .i64 s1_, .int .i64 s2_]
        have hO : ∀ kk, kk < y21.heap.size → ((y21.alloc (.cells #[.int .i64 0, .int .i64 0, .int .i64 0] 39)).setRow (y21.heap.size) #[.int .i64 s0_, .int .i64 s1_, .int .i64 s2_]).heap[kk]? = y21.heap[kk]? := fun kk hk => (setRow_other _ _ _ _ (by omega)).trans (hb.block _ hk)
        obtain ⟨y22, hy22⟩ : ∃ y, (y21.alloc (.cells #[.int .i64 0, .int .i64 0, .int .i64 0] 39)).setRow (y21.heap.size) #[.int .i64 s0_, .int .i64 s1_, .int .i64 s2_] = y := ⟨_, rfl⟩
        have hs22 : y22.heap.size = y21.heap.size + 1 := by rw [← hy22]; simp [World.setRow]
        rw [hy22] at hN HUx hO ⊢
        clear hy22 hsz hb
        have HU22 := Lib.hid HUx
        clear HUx
        have hl22_0 := lt_heap hr21_0
        have hr22_0 := (hO _ hl22_0).trans hr21_0
        have hl22_1 := lt_heap hr21_1
        have hr22_1 := (hO _ hl22_1).trans hr21_1
        have hl22_2 := lt_heap hr21_2
        have hr22_2 := (hO _ hl22_2).trans hr21_2
        have hr22_3 := hN
        clear hN hO
        clear hr21_0 hr21_1 hr21_2 HU21
        have c3_0 := cell_of_row _ _ 0 _ _ _ hr22_3
        have c3_1 := cell_of_row _ _ 1 _ _ _ hr22_3
        have c3_2 := cell_of_row _ _ 2 _ _ _ hr22_3
        simp at c3_0 c3_1 c3_2
        go_wp2_with fail
        refine (HWI.out _).mono ?_
        rintro e y23 ⟨rfl, hb23⟩
        clear c3_0 c3_1 c3_2
        have hr23_0 := (hb23.block _ (lt_heap hr22_0)).trans hr22_0
        have hr23_1 := (hb23.block _ (lt_heap hr22_1)).trans hr22_1
        have hr23_2 := (hb23.block _ (lt_heap hr22_2)).trans hr22_2
        have hr23_3 := (hb23.block _ (lt_heap hr22_3)).trans hr22_3
        have HU23 := Lib.hid (HU22.out.trans (hb23.mono HU22.out.size))
        clear hr22_0 hr22_1 hr22_2 hr22_3 HU22
        go_upto_region 10 with fail
        refine wp_region_held_drew (S := fun y => y.heap[mb]? = some (.cells #[nw, ow, .slice (some ⟨gp, op, none⟩) N pc] 58 (0, 0)) ∧ y.heap[gb]? = some (.cells cur 39 (0, 0)) ∧ y.heap[qb]? = some (.cells #[.int .i64 b0_, .int .i64 b1_, .int .i64 b2_, .int .i64 b3_, .int .i64 b4_, .int .i64 b5_] 41 (0, 0)) ∧ y.heap[y21.heap.size]? = some (.cells #[.int .i64 s0_, .int .i64 s1_, .int .i64 s2_] 39 (0, 0))) (by kernel_rfl) (⟨hr23_0, hr23_1, hr23_2, hr23_3⟩) (fun hS0 => ?_)
        obtain ⟨y24, hy24⟩ : ∃ y, y23.drew = y := ⟨_, rfl⟩
        have HU24 := Lib.hid (show Below w.heap.size w y24 by rw [← hy24]; exact HU23.out.drew)
        have hr24_0 : y24.heap[mb]? = some (.cells #[nw, ow, .slice (some ⟨gp, op, none⟩) N pc] 58 (0, 0)) := by rw [← hy24]; exact hr23_0
        have hr24_1 : y24.heap[gb]? = some (.cells cur 39 (0, 0)) := by rw [← hy24]; exact hr23_1
        have hr24_2 : y24.heap[qb]? = some (.cells #[.int .i64 b0_, .int .i64 b1_, .int .i64 b2_, .int .i64 b3_, .int .i64 b4_, .int .i64 b5_] 41 (0, 0)) := by rw [← hy24]; exact hr23_2
        have hr24_3 : y24.heap[y21.heap.size]? = some (.cells #[.int .i64 s0_, .int .i64 s1_, .int .i64 s2_] 39 (0, 0)) := by rw [← hy24]; exact hr23_3
        rw [hy24] at hS0 ⊢
        clear hy24
        refine wpAnyH_take (i := 0) (v := ?_) rfl (by kernel_rfl) (by kernel_rfl) (by kernel_rfl) (fun _ _ _ h => h) (Or.inl ⟨by kernel_rfl, by (intro wz hSz; go_simp; try with_reducible rfl)⟩) hS0 ?_
        go_simp
        refine wpAnyH_take (i := 1) (v := ?_) rfl (by kernel_rfl) (by kernel_rfl) (by kernel_rfl) (fun _ _ _ h => h) (Or.inl ⟨by kernel_rfl, by (intro wz hSz; have c0_0 := cell_of_row _ _ 0 _ _ _ hSz.1; have c0_1 := cell_of_row _ _ 1 _ _ _ hSz.1; have c0_2 := cell_of_row _ _ 2 _ _ _ hSz.1; have c2_0 := cell_of_row _ _ 0 _ _ _ hSz.2.2.1; have c2_1 := cell_of_row _ _ 1 _ _ _ hSz.2.2.1; have c2_2 := cell_of_row _ _ 2 _ _ _ hSz.2.2.1; have c2_3 := cell_of_row _ _ 3 _ _ _ hSz.2.2.1; have c2_4 := cell_of_row _ _ 4 _ _ _ hSz.2.2.1; have c2_5 := cell_of_row _ _ 5 _ _ _ hSz.2.2.1; have c3_0 := cell_of_row _ _ 0 _ _ _ hSz.2.2.2; have c3_1 := cell_of_row _ _ 1 _ _ _ hSz.2.2.2; have c3_2 := cell_of_row _ _ 2 _ _ _ hSz.2.2.2; simp at c0_0 c0_1 c0_2 c2_0 c2_1 c2_2 c2_3 c2_4 c2_5 c3_0 c3_1 c3_2; go_simp; try with_reducible rfl)⟩) hS0 ?_
        go_simp
        refine wpAnyH_take (i := 2) (v := ?_) rfl (by kernel_rfl) (by kernel_rfl) (by kernel_rfl) (fun _ _ _ h => h) (Or.inl ⟨by kernel_rfl, by (intro wz hSz; go_simp; try with_reducible rfl)⟩) hS0 ?_
        go_simp
        refine wpAnyH_take (i := 4) (v := ?_) rfl (by kernel_rfl) (by kernel_rfl) (by kernel_rfl) (fun _ _ _ h => h) (Or.inl ⟨by kernel_rfl, by (intro wz hSz; have c0_0 := cell_of_row _ _ 0 _ _ _ hSz.1; have c0_1 := cell_of_row _ _ 1 _ _ _ hSz.1; have c0_2 := cell_of_row _ _ 2 _ _ _ hSz.1; have c2_0 := cell_of_row _ _ 0 _ _ _ hSz.2.2.1; have c2_1 := cell_of_row _ _ 1 _ _ _ hSz.2.2.1; have c2_2 := cell_of_row _ _ 2 _ _ _ hSz.2.2.1; have c2_3 := cell_of_row _ _ 3 _ _ _ hSz.2.2.1; have c2_4 := cell_of_row _ _ 4 _ _ _ hSz.2.2.1; have c2_5 := cell_of_row _ _ 5 _ _ _ hSz.2.2.1; have c3_0 := cell_of_row _ _ 0 _ _ _ hSz.2.2.2; have c3_1 := cell_of_row _ _ 1 _ _ _ hSz.2.2.2; have c3_2 := cell_of_row _ _ 2 _ _ _ hSz.2.2.2; simp at c0_0 c0_1 c0_2 c2_0 c2_1 c2_2 c2_3 c2_4 c2_5 c3_0 c3_1 c3_2; go_simp; try with_reducible rfl)⟩) hS0 ?_
        go_simp
        refine wpAnyH_take (i := 5) (v := ?_) rfl (by kernel_rfl) (by kernel_rfl) (by kernel_rfl) (fun _ _ _ h => h) (Or.inl ⟨by kernel_rfl, by (intro wz hSz; go_simp; try with_reducible rfl)⟩) hS0 ?_
        go_simp
        refine wpAnyH_ready (rs := [3]) (by kernel_rfl) (by simp) ?_
        refine AllReadyH.cons rfl (fun K hK => ?_) AllReadyH.nil
        go_simp
        go_wp2_with (go_at_call 43; refine (HA1.out _).mono ?_; rintro e y25 ⟨rfl, hb25⟩)
        have hr25_0 := (hb25.block _ (lt_heap hr24_0)).trans hr24_0
        have hr25_1 := (hb25.block _ (lt_heap hr24_1)).trans hr24_1
        have hr25_2 := (hb25.block _ (lt_heap hr24_2)).trans hr24_2
        have hr25_3 := (hb25.block _ (lt_heap hr24_3)).trans hr24_3
        have HU25 := Lib.hid (HU24.out.trans (hb25.mono HU24.out.size))
        refine hK.out _ _ (⟨(hb25.block _ (lt_heap hS0.1)).trans hS0.1, (hb25.block _ (lt_heap hS0.2.1)).trans hS0.2.1, (hb25.block _ (lt_heap hS0.2.2.1)).trans hS0.2.2.1, (hb25.block _ (lt_heap hS0.2.2.2)).trans hS0.2.2.2⟩) (fun hS25c => ?_)
        clear hK K
        refine wpAnyH_ready (rs := [6]) (by kernel_rfl) (by simp) ?_
        refine AllReadyH.cons rfl (fun K hK => ?_) AllReadyH.nil
        go_simp
        go_wp2_with (go_at_call 43; refine (HA2.out _).mono ?_; rintro e y26 ⟨rfl, hb26⟩)
        have hr26_0 := (hb26.block _ (lt_heap hr25_0)).trans hr25_0
        have hr26_1 := (hb26.block _ (lt_heap hr25_1)).trans hr25_1
        have hr26_2 := (hb26.block _ (lt_heap hr25_2)).trans hr25_2
        have hr26_3 := (hb26.block _ (lt_heap hr25_3)).trans hr25_3
        have HU26 := Lib.hid (HU25.out.trans (hb26.mono HU25.out.size))
        refine hK.out _ _ (⟨(hb26.block _ (lt_heap hS25c.1)).trans hS25c.1, (hb26.block _ (lt_heap hS25c.2.1)).trans hS25c.2.1, (hb26.block _ (lt_heap hS25c.2.2.1)).trans hS25c.2.2.1, (hb26.block _ (lt_heap hS25c.2.2.2)).trans hS25c.2.2.2⟩) (fun hS26c => ?_)
        clear hK K
        refine wpAnyH_take (i := 7) (v := ?_) rfl (by kernel_rfl) (by kernel_rfl) (by kernel_rfl) (fun _ _ _ h => h) (Or.inl ⟨by kernel_rfl, by (intro wz hSz; go_simp; try with_reducible rfl)⟩) hS26c ?_
        go_simp
        refine wpAnyH_take (i := 8) (v := ?_) rfl (by kernel_rfl) (by kernel_rfl) (by kernel_rfl) (fun _ _ _ h => h) (Or.inl ⟨by kernel_rfl, by (intro wz hSz; go_simp; try with_reducible rfl)⟩) hS26c ?_
        go_simp
        refine wpAnyH_done (by kernel_rfl) ?_ _
        go_upto_region 13 with fail
        have hsn := HU26.out.size
        have hrc := hr26_1
        have hlc := lt_heap hrc
        clear hr26_0 hr26_1 hr26_2 hr26_3
        obtain ⟨z, rfl⟩ : ∃ z : World, z = y26 := ⟨_, rfl⟩
        have HU := HU26
        have HRC := Lib.hid hrc
        clear HU26 hrc
        go_loopw [13, 15, 16, 55] (fun v s15 s16 i wr => ∃ k : Nat, k ≤ m + 1 ∧ i = .int .i64 k ∧ Hid (wr.ownsRow z.heap.size 3 1 v k (pv (partOf PL l) k)) ∧ Hid (Below z.heap.size z wr)) (fun _ _ _ i _ => m + 1 - (intOf i).toNat)
        case atStart => exact ⟨0, by omega, rfl, Lib.hid (by simpa [pv] using World.ownsRow_nil _ _ _ _), Lib.hid (Below.refl _ _)⟩
        case round =>
          obtain ⟨k, hk, rfl, HO2, HB2⟩ := hrel
          have hbs2 := HB2.out.size
          by_cases hlt' : k < m + 1
          · have hki : (k : Int) < ((m + 1 : Nat) : Int) := by omega
            obtain ⟨y90, rfl⟩ : ∃ y : World, y = wr := ⟨_, rfl⟩
            have hr90_0 := (HB2.out.block gb hlc).trans HRC.out
            have cq0 := (cell_of_row _ _ (k * 3) _ _ _ hr90_0).trans (HCU.out (k * 3) (by omega))
            have cq1 := (cell_of_row _ _ (k * 3 + 1) _ _ _ hr90_0).trans (HCU.out (k * 3 + 1) (by omega))
            have cq2 := (cell_of_row _ _ (k * 3 + 2) _ _ _ hr90_0).trans (HCU.out (k * 3 + 2) (by omega))
            have HEP := Lib.hid (HPT.out k)
            have HA := Lib.hid (HA3.out k)
            obtain ⟨t0, ht0⟩ : ∃ t, t = mids PL l (k * 3) := ⟨_, rfl⟩
            obtain ⟨t1, ht1⟩ : ∃ t, t = mids PL l (k * 3 + 1) := ⟨_, rfl⟩
            obtain ⟨t2, ht2⟩ : ∃ t, t = mids PL l (k * 3 + 2) := ⟨_, rfl⟩
            obtain ⟨xk, hxk⟩ : ∃ t, t = midN PL (l.getD k 0) ax := ⟨_, rfl⟩
            rw [← ht0, ← ht1, ← ht2, ← hxk] at HA
            rw [← hxk] at HEP
            rw [← ht0] at cq0
            rw [← ht1] at cq1
            rw [← ht2] at cq2
            clear ht0 ht1 ht2 hxk
            have HU90 := Lib.hid (Below.refl y90.heap.size y90)
            have HA := Lib.hid (heap_alloc_last y90 (.cells #[.int .i64 0, .int .i64 0, .int .i64 0] 39))
            have hHi := Lib.hid (show (Try.prog.info? 39).map (·.size) = some (#[.int .i64 t0, .int .i64 t1, .int .i64 t2] : Array Value).size by kernel_rfl)
            have hHz := Lib.hid (show (#[.int .i64 0, .int .i64 0, .int .i64 0] : Array Value).size = (#[.int .i64 t0, .int .i64 t1, .int .i64 t2] : Array Value).size from rfl)
            have hHo := Lib.hid (show (#[.int .i64 t0, .int .i64 t1, .int .i64 t2] : Array Value).all (·.oneCell') = true by simp [Value.oneCell'])
            go_upto_region 15 with (refine Au.wpList_store_row rfl 39 (.tmp 15) (.tmp 58) rfl (y90.alloc (.cells #[.int .i64 0, .int .i64 0, .int .i64 0] 39)) #[.int .i64 0, .int .i64 0, .int .i64 0] #[.int .i64 t0, .int .i64 t1, .int .i64 t2] (y90.heap.size) 39 HA.out rfl rfl hHi.out hHz.out hHo.out ?_)
            clear hHi hHz hHo
            have hN := setRow_heap _ (y90.heap.size) _ #[.int .i64 t0, .int .i64 t1, .int .i64 t2] _ _ HA.out
            clear HA
            have hsz := HU90.out.size
            have hb := below_n1 y90 (.cells #[.int .i64 0, .int .i64 0, .int .i64 0] 39)
            have HUx := below_setRow (g := y90.heap.size) (HU90.out.trans (hb.mono HU90.out.size)) (by omega) #[.int .i64 t0, .int .i64 t1, .int .i64 t2]
            have hO : ∀ kk, kk < y90.heap.size → ((y90.alloc (.cells #[.int .i64 0, .int .i64 0, .int .i64 0] 39)).setRow (y90.heap.size) #[.int .i64 t0, .int .i64 t1, .int .i64 t2]).heap[kk]? = y90.heap[kk]? := fun kk hk => (setRow_other _ _ _ _ (by omega)).trans (hb.block _ hk)
            obtain ⟨y91, hy91⟩ : ∃ y, (y90.alloc (.cells #[.int .i64 0, .int .i64 0, .int .i64 0] 39)).setRow (y90.heap.size) #[.int .i64 t0, .int .i64 t1, .int .i64 t2] = y := ⟨_, rfl⟩
            have hs91 : y91.heap.size = y90.heap.size + 1 := by rw [← hy91]; simp [World.setRow]
            rw [hy91] at hN HUx hO ⊢
            clear hy91 hsz hb
            have HU91 := Lib.hid HUx
            clear HUx
            have hl91_0 := lt_heap hr90_0
            have hr91_0 := (hO _ hl91_0).trans hr90_0
            have hr91_1 := hN
            clear hN hO
            clear hr90_0 HU90
            clear cq0 cq1 cq2
            have c1_0 := cell_of_row _ _ 0 _ _ _ hr91_1
            have c1_1 := cell_of_row _ _ 1 _ _ _ hr91_1
            have c1_2 := cell_of_row _ _ 2 _ _ _ hr91_1
            simp at c1_0 c1_1 c1_2
            go_wp2_with fail
            refine (HA.out _).mono ?_
            rintro e y92 ⟨rfl, hb92⟩
            clear c1_0 c1_1 c1_2
            have hr92_0 := (hb92.block _ (lt_heap hr91_0)).trans hr91_0
            have hr92_1 := (hb92.block _ (lt_heap hr91_1)).trans hr91_1
            have HU92 := Lib.hid (HU91.out.trans (hb92.mono HU91.out.size))
            clear hr91_0 hr91_1 HU91
            have HI := Lib.hid ((own_keep (w' := y92) HO2.out fun q hq => (HU92.out.block q (HO2.out.lt q hq).2)).alloc (.cells #[.int .i64 (min (Pl.held (Pl.mul (Pl.div (Pl.sub xk low) wide) (Pl.ofWhole 8)) / 65536) 7)] 3))
            have HX1 := Lib.hid (show ∀ j u, ([.int .i64 (min (Pl.held (Pl.mul (Pl.div (Pl.sub xk low) wide) (Pl.ofWhole 8)) / 65536) 7)] : List Value)[j]? = some u → (y92.alloc (.cells #[.int .i64 (min (Pl.held (Pl.mul (Pl.div (Pl.sub xk low) wide) (Pl.ofWhole 8)) / 65536) 7)] 3)).cell? ((⟨y92.heap.size, 0, none⟩ : Addr).add j) = some u from cell_one_new _ _ _)
            have HX2 := Lib.hid (show ∀ u ∈ ([.int .i64 (min (Pl.held (Pl.mul (Pl.div (Pl.sub xk low) wide) (Pl.ofWhole 8)) / 65536) 7)] : List Value), u.oneCell' = true by intro u hu; simp only [List.mem_cons, List.not_mem_nil, or_false] at hu; subst hu; rfl)
            have hsN := HU92.out.size
            go_wp2_with (first | (go_at_call 45; refine (Wa.sub_any _ _ _).mono ?_; rintro e ww ⟨rfl, rfl⟩) | (go_at_call 44; refine (Wa.div_any _ _ _).mono ?_; rintro e ww ⟨rfl, rfl⟩) | (go_at_call 48; refine (Wa.of_any _ _).mono ?_; rintro e ww ⟨rfl, rfl⟩) | (go_at_call 47; refine (Wa.mul_any _ _ _).mono ?_; rintro e ww ⟨rfl, rfl⟩) | (go_at_call 46; refine (Wa.whole_any _ _).mono ?_; rintro e ww ⟨rfl, rfl⟩) | (at_builtin; (refine wpList_append_own _ rfl _ _ 25 rfl z.heap.size 3 j0 (.int .i64 0) 1 8 Try.underlying25 ji jz0 jz1 jz2 rfl (by decide) _ _ _ rfl HI.out ⟨y92.heap.size, 0, none⟩ 1 1 [.int .i64 (min (Pl.held (Pl.mul (Pl.div (Pl.sub xk low) wide) (Pl.ofWhole 8)) / 65536) 7)] rfl rfl HX1.out HX2.out ?c3 ?c4 ?c5 ?_)))
            case c3 => unfold maxLen; omega
            case c4 => omega
            case c5 => (first | omega | (simp; omega))
            intro v2 w4 hown hgrow _
            have HB3 := Lib.hid (((HB2.out.trans (HU92.out.mono hbs2)).alloc (by omega) _).grown hgrow (by simp; omega) (fun q hq => (HO2.out.lt q hq).1))
            rw [← HEP.out, ← pv_step] at hown
            have HO3 := Lib.hid hown
            clear hown hgrow HEP HX1 HX2 HI
            go_wp2_with fail
            go_roundw
            case rel => exact ⟨k + 1, by omega, by go_num, HO3, HB3⟩
            case measure => simp [intOf]; omega
          · have hkm : k = m + 1 := by omega
            subst hkm
            have hnl : ¬ ((m + 1 : Nat) : Int) < ((m + 1 : Nat) : Int) := by omega
            clear hlt' hk
            go_wp2_with fail
            go_ret
            exact ⟨⟨_, rfl, own_mono HO2.out hsn⟩, HU.out.trans (HB2.out.mono hsn)⟩

end Go.Proofs.Ytoppcnkfgmbpfaa.Tr
