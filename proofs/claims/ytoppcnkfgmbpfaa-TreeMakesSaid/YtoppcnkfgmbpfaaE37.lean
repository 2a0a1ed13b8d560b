/- Trees: how the program splits some shapes. -/
import Derived.Test.YtoppcnkfgmbpfaaE36
namespace Go.Proofs.Ytoppcnkfgmbpfaa.Tr
open Go.RowKit Go.Proofs.Ytoppcnkfgmbpfaa Go.Proofs.Ytoppcnkfgmbpfaa.Wa Go.Proofs.Ytoppcnkfgmbpfaa.Ve Go.Proofs.Ytoppcnkfgmbpfaa.Au Go.Proofs.Ytoppcnkfgmbpfaa.Bx
set_option linter.unusedVariables false
set_option linter.unusedSimpArgs false

/-- a slice that holds these numbers, in a block of which something is known -/
def Lies (w : World) (v : Value) (xs : List Nat) (P : Nat → Prop) : Prop :=
  ∃ g o c : Nat, v = .slice (some ⟨g, o, none⟩) xs.length c ∧ xs.length ≤ c ∧ g < w.heap.size ∧ P g ∧ ∀ j, j < xs.length → w.cell? ⟨g, o + j, none⟩ = some (.int .i64 ((xs.getD j 0 : Nat) : Int))

theorem Lies.on {w w' : World} {v : Value} {xs : List Nat} {P : Nat → Prop} (h : Lies w v xs P) (hb : Below w.heap.size w w') : Lies w' v xs P := by
  obtain ⟨g, o, c, h1, h2, h3, h4, h5⟩ := h
  exact ⟨g, o, c, h1, h2, Nat.lt_of_lt_of_le h3 hb.size, h4, fun j hj => (hb.cell (p := ⟨g, o + j, none⟩) h3).trans (h5 j hj)⟩

theorem own_slice {w : World} {b e n c : Nat} {v : Value} {xs : List Value} (h : w.ownsRow b e c v n xs) : ∃ a k, v = .slice a n k := by
  rcases h.2 with ⟨h1, h2⟩ | ⟨q, cap, cur, h1, _⟩
  · have : n = 0 := h2
    exact ⟨none, 0, by rw [h1, this]⟩
  · exact ⟨_, _, h1⟩

theorem nv_at (xs : List Nat) (j : Nat) (h : j < xs.length) : (nv xs)[j]? = some (.int .i64 ((xs.getD j 0 : Nat) : Int)) := by
  simp [nv, getD_lt _ _ h, List.getElem?_eq_getElem h]

theorem own_lies {w : World} {b : Nat} {v : Value} {xs : List Nat} (h : w.ownsRow b 3 1 v xs.length (nv xs)) (h1 : 1 ≤ xs.length) (P : Nat → Prop) (hP : ∀ q, b ≤ q → P q) : Lies w v xs P := by
  have h' := h
  rcases h.2 with ⟨_, h2⟩ | ⟨q, cap, cur, hv, hq, hc, hn, _⟩
  · omega
  · subst hv
    exact ⟨q, 0, cap, rfl, hn, lt_heap hc, hP q hq, fun j hj => by rw [Nat.zero_add, h'.cellAt j (by omega), nv_at _ _ hj]⟩

theorem sel_lt (pt : Nat → Int) (cut : Int) (l : List Nat) (N : Nat) (h : ∀ j, j < l.length → l.getD j 0 < N) :
    (∀ j, j < (sel pt cut l l.length).1.length → (sel pt cut l l.length).1.getD j 0 < N) ∧ (∀ j, j < (sel pt cut l l.length).2.length → (sel pt cut l l.length).2.getD j 0 < N) := by
  have hm : ∀ x, x ∈ l → x < N := fun x hx => by
    obtain ⟨j, hj, rfl⟩ := List.getElem_of_mem hx
    have := h j hj
    rwa [getD_lt _ _ hj] at this
  have hs := sel_sub pt cut l l.length (Nat.le_refl _)
  exact ⟨fun j hj => hm _ (hs.1 _ (by rw [getD_lt _ _ hj]; exact List.getElem_mem _)), fun j hj => hm _ (hs.2 _ (by rw [getD_lt _ _ hj]; exact List.getElem_mem _))⟩

theorem costL_le (PL : Nat → Int) (l : List Nat) (h : l.length ≤ 1000) : -2147483648000 ≤ costL PL l ∧ costL PL l ≤ 2147483648000 := by
  obtain ⟨sk, hsk⟩ : ∃ s, s = skinL PL l := ⟨_, rfl⟩
  have hs0 : -2147483648 ≤ sk ∧ sk ≤ 2147483648 := by rw [hsk]; unfold skinL; exact ⟨Pl.held_lo _, Pl.held_hi _⟩
  unfold costL
  rw [← hsk]
  have c1 : (l.length : Int) * (-2147483648) ≤ (l.length : Int) * sk := Int.mul_le_mul_of_nonneg_left hs0.1 (by omega)
  have c2 : (l.length : Int) * sk ≤ (l.length : Int) * 2147483648 := Int.mul_le_mul_of_nonneg_left hs0.2 (by omega)
  omega

theorem take_lies (w : World) (l : List Nat) (g o c : Nat) (h : Nat) (hh : h ≤ l.length) (hc : h ≤ c) (hg : g < w.heap.size) (P : Nat → Prop) (hP : P g) (hl : ∀ j, j < l.length → w.cell? ⟨g, o + j, none⟩ = some (.int .i64 ((l.getD j 0 : Nat) : Int))) :
    Lies w (.slice (some ⟨g, o, none⟩) h c) (l.take h) P := by
  have e : (l.take h).length = h := by rw [List.length_take]; omega
  refine ⟨g, o, c, by rw [e], by omega, hg, hP, fun j hj => ?_⟩
  rw [e] at hj
  rw [hl j (by omega), getD_lt _ _ (by omega), getD_lt _ _ (by omega)]
  simp

theorem drop_lies (w : World) (l : List Nat) (g o c : Nat) (h : Nat) (hh : h ≤ l.length) (hc : l.length - h ≤ c) (hg : g < w.heap.size) (P : Nat → Prop) (hP : P g) (hl : ∀ j, j < l.length → w.cell? ⟨g, o + j, none⟩ = some (.int .i64 ((l.getD j 0 : Nat) : Int))) :
    Lies w (.slice (some ⟨g, o + h, none⟩) (l.length - h) c) (l.drop h) P := by
  have e : (l.drop h).length = l.length - h := by rw [List.length_drop]
  refine ⟨g, o + h, c, by rw [e], by omega, hg, hP, fun j hj => ?_⟩
  rw [e] at hj
  rw [show o + h + j = o + (h + j) by omega, hl (h + j) (by omega), getD_lt _ _ (by omega), getD_lt _ _ (by omega)]
  simp

theorem cuts_skip {PL : Nat → Int} {l : List Nat} {pt : Nat → Int} {k : Nat} (h : (sel pt ((k + 1 : Nat) : Int) l l.length).1.length = 0 ∨ (sel pt ((k + 1 : Nat) : Int) l l.length).2.length = 0) : cutsN PL l pt (k + 1) = cutsN PL l pt k := by
  rw [cutsN, cutStep, if_pos h]

theorem cuts_take {PL : Nat → Int} {l : List Nat} {pt : Nat → Int} {k : Nat} (h1 : (sel pt ((k + 1 : Nat) : Int) l l.length).1.length ≠ 0) (h2 : (sel pt ((k + 1 : Nat) : Int) l l.length).2.length ≠ 0)
    (h : (cutsN PL l pt k).found = false ∨ costL PL (sel pt ((k + 1 : Nat) : Int) l l.length).1 + costL PL (sel pt ((k + 1 : Nat) : Int) l l.length).2 < (cutsN PL l pt k).least) :
    cutsN PL l pt (k + 1) = ⟨(sel pt ((k + 1 : Nat) : Int) l l.length).1, (sel pt ((k + 1 : Nat) : Int) l l.length).2, costL PL (sel pt ((k + 1 : Nat) : Int) l l.length).1 + costL PL (sel pt ((k + 1 : Nat) : Int) l l.length).2, true⟩ := by
  rw [cutsN, cutStep, if_neg (by omega), if_pos h]

theorem cuts_keep {PL : Nat → Int} {l : List Nat} {pt : Nat → Int} {k : Nat} (h : ¬ ((cutsN PL l pt k).found = false ∨ costL PL (sel pt ((k + 1 : Nat) : Int) l l.length).1 + costL PL (sel pt ((k + 1 : Nat) : Int) l l.length).2 < (cutsN PL l pt k).least)) : cutsN PL l pt (k + 1) = cutsN PL l pt k := by
  rw [cutsN, cutStep, if_neg h]
  split <;> rfl

set_option maxHeartbeats 4000000 in
set_option maxRecDepth 100000 in
theorem split_l (PL : Nat → Int) (N : Nat) (l : List Nat) (h2 : 2 ≤ l.length) (hm : l.length ≤ 1000) (hN : N ≤ 1000) (hlt : ∀ j, j < l.length → l.getD j 0 < N) (mb gp op pc gl ol lc : Nat) (hlc : l.length ≤ lc) (nw ow : Value) (w : World) (hgp : gp < w.heap.size) (hgl : gl < w.heap.size)
    (hmb : w.heap[mb]? = some (.cells #[nw, ow, .slice (some ⟨gp, op, none⟩) N pc] 58 (0, 0)))
    (hp : ∀ j, j < N * 12 → w.cell? ⟨gp, op + j, none⟩ = some (.int .i64 (PL j))) (hl : ∀ j, j < l.length → w.cell? ⟨gl, ol + j, none⟩ = some (.int .i64 ((l.getD j 0 : Nat) : Int))) :
    Calls Try.prog 19 #[.pointer (some ⟨mb, 0, none⟩), .slice (some ⟨gl, ol, none⟩) l.length lc] w fun e w' => (∃ va vb, e = .returned (.tuple #[va, vb]) ∧ Lies w' va (splitA PL l) (fun g => g = gl ∨ w.heap.size ≤ g) ∧ Lies w' vb (splitB PL l) (fun g => g = gl ∨ w.heap.size ≤ g)) ∧ Below w.heap.size w w' := by

  have HPP := Lib.hid hp
  have HLL := Lib.hid hl
  have HLT := Lib.hid hlt
  have HMB := Lib.hid hmb
  have hml := lt_heap hmb
  have HPA := Lib.hid (fun (W : World) (hb : Below w.heap.size w W) => parts_l PL N l (by omega) hm hN hlt mb gp op pc gl ol lc nw ow W (Nat.lt_of_lt_of_le hgp hb.size) (Nat.lt_of_lt_of_le hgl hb.size) ((hb.block mb hml).trans hmb) (fun j hj => (hb.cell (p := ⟨gp, op + j, none⟩) hgp).trans (hp j hj)) (fun j hj => (hb.cell (p := ⟨gl, ol + j, none⟩) hgl).trans (hl j hj)))
  have HDV := Lib.hid (fun (pt : Nat → Int) (cut : Int) (q o pc2 : Nat) (W : World) (hb : Below w.heap.size w W) (hq : q < W.heap.size) (hpt : ∀ j, j < l.length → W.cell? ⟨q, o + j, none⟩ = some (.int .i64 (pt j))) => divide_l l pt cut hm gl ol lc q o pc2 W (Nat.lt_of_lt_of_le hgl hb.size) hq (fun j hj => (hb.cell (p := ⟨gl, ol + j, none⟩) hgl).trans (hl j hj)) hpt)
  have HCO := Lib.hid (fun (a : List Nat) (g o c : Nat) (W : World) (hb : Below w.heap.size w W) (h1 : 1 ≤ a.length) (hm : a.length ≤ 1000) (hlt : ∀ j, j < a.length → a.getD j 0 < N) (hc : a.length ≤ c) (hg : g < W.heap.size) (ha : ∀ j, j < a.length → W.cell? ⟨g, o + j, none⟩ = some (.int .i64 ((a.getD j 0 : Nat) : Int))) => cost_l PL N a h1 hm hN hlt mb gp op pc g o c hc nw ow W (Nat.lt_of_lt_of_le hgp hb.size) hg ((hb.block mb hml).trans hmb) (fun j hj => (hb.cell (p := ⟨gp, op + j, none⟩) hgp).trans (hp j hj)) ha)
  clear hp hlt hmb
  obtain ⟨h, hh⟩ : ∃ h, h = l.length / 2 := ⟨_, rfl⟩
  obtain ⟨d, hd⟩ : ∃ d, lc = h + (d + 1) := ⟨lc - h - 1, by omega⟩
  subst hd
  obtain ⟨r, hr⟩ : ∃ r, l.length = h + (r + 1) := ⟨l.length - h - 1, by omega⟩
  have HH := Lib.hid hh
  have HNN := Lib.hid hr
  have hq1 : ((h : Int) + ((r : Int) + 1)) / 2 = (h : Int) := by omega
  have hs2 : (h : Int) ≤ (h : Int) + ((r : Int) + 1) := by omega
  have hs3 : (h : Int) ≤ (h : Int) + ((d : Int) + 1) := by omega
  have hs4 : (h : Int) + ((r : Int) + 1) ≤ (h : Int) + ((d : Int) + 1) := by omega
  have HL1 := Lib.hid (take_lies w l gl ol (h + (d + 1)) h (by omega) (by omega) hgl (fun g => g = gl ∨ w.heap.size ≤ g) (Or.inl rfl) hl)
  have HL2 := Lib.hid (drop_lies w l gl ol (d + 1) h (by omega) (by omega) hgl (fun g => g = gl ∨ w.heap.size ≤ g) (Or.inl rfl) hl)
  have hrd : r ≤ d := by omega
  have hh1 : 1 ≤ h := by omega
  have hm1 : h + (r + 1) ≤ 1000 := by omega
  rw [hr]
  rw [hr] at HPA HDV
  rw [hr, show h + (r + 1) - h = r + 1 by omega] at HL2
  clear hh hr hlc h2 hm hl
  go_enter Try.func19, Try.ntmps19
  go_upto_region 2 with fail
  
  obtain ⟨y0, hy0⟩ : ∃ y0, w = y0 := ⟨_, rfl⟩
  have HU0 := Lib.hid (show Below w.heap.size w y0 by rw [← hy0]; exact Below.refl _ _)
  have hr0_0 : y0.heap[mb]? = some (.cells #[nw, ow, .slice (some ⟨gp, op, none⟩) N pc] 58 (0, 0)) := by rw [← hy0]; exact HMB.out
  rw [hy0]
  clear hy0
  refine wp_region_held_drew (S := fun y => y.heap[mb]? = some (.cells #[nw, ow, .slice (some ⟨gp, op, none⟩) N pc] 58 (0, 0))) (by kernel_rfl) (hr0_0) (fun hS0 => ?_)
  obtain ⟨y1, hy1⟩ : ∃ y, y0.drew = y := ⟨_, rfl⟩
  have HU1 := Lib.hid (show Below w.heap.size w y1 by rw [← hy1]; exact HU0.out.drew)
  have hr1_0 : y1.heap[mb]? = some (.cells #[nw, ow, .slice (some ⟨gp, op, none⟩) N pc] 58 (0, 0)) := by rw [← hy1]; exact hr0_0
  rw [hy1] at hS0 ⊢
  clear hy1
  refine wpAnyH_take (i := 0) (v := ?_) rfl (by kernel_rfl) (by kernel_rfl) (by kernel_rfl) (fun _ _ _ h => h) (Or.inl ⟨by kernel_rfl, by (intro wz hSz; go_simp; try with_reducible rfl)⟩) hS0 ?_
  go_simp
  refine wpAnyH_take (i := 1) (v := ?_) rfl (by kernel_rfl) (by kernel_rfl) (by kernel_rfl) (fun _ _ _ h => h) (Or.inl ⟨by kernel_rfl, by (intro wz hSz; go_simp; try with_reducible rfl)⟩) hS0 ?_
  go_simp
  refine wpAnyH_take (i := 2) (v := ?_) rfl (by kernel_rfl) (by kernel_rfl) (by kernel_rfl) (fun _ _ _ h => h) (Or.inl ⟨by kernel_rfl, by (intro wz hSz; go_simp; try with_reducible rfl)⟩) hS0 ?_
  go_simp
  refine wpAnyH_take (i := 3) (v := ?_) rfl (by kernel_rfl) (by kernel_rfl) (by kernel_rfl) (fun _ _ _ h => h) (Or.inl ⟨by kernel_rfl, by (intro wz hSz; go_simp; try with_reducible rfl)⟩) hS0 ?_
  go_simp
  refine wpAnyH_take (i := 4) (v := ?_) rfl (by kernel_rfl) (by kernel_rfl) (by kernel_rfl) (fun _ _ _ h => h) (Or.inl ⟨by kernel_rfl, by (intro wz hSz; go_simp; try with_reducible rfl)⟩) hS0 ?_
  go_simp
  refine wpAnyH_take (i := 5) (v := ?_) rfl (by kernel_rfl) (by kernel_rfl) (by kernel_rfl) (fun _ _ _ h => h) (Or.inl ⟨by kernel_rfl, by (intro wz hSz; go_simp; try with_reducible rfl)⟩) hS0 ?_
  go_simp
  refine wpAnyH_take (i := 6) (v := ?_) rfl (by kernel_rfl) (by kernel_rfl) (by kernel_rfl) (fun _ _ _ h => h) (Or.inl ⟨by kernel_rfl, by (intro wz hSz; go_simp; try with_reducible rfl)⟩) hS0 ?_
  go_simp
  refine wpAnyH_take (i := 7) (v := ?_) rfl (by kernel_rfl) (by kernel_rfl) (by kernel_rfl) (fun _ _ _ h => h) (Or.inl ⟨by kernel_rfl, by (intro wz hSz; go_simp; try with_reducible rfl)⟩) hS0 ?_
  go_simp
  refine wpAnyH_done (by kernel_rfl) ?_ _
  go_wp2_with (go_at_call 25; refine (HPA.out _ HU1.out).mono ?_; rintro e w3 ⟨⟨vp, rfl, hpo⟩, hb3⟩)
  go_upto_region 5 with fail
  have HV3 := Lib.hid (HU1.out.trans (hb3.mono HU1.out.size))
  have HLA := Lib.hid (HL1.out.on HV3.out)
  have HLB := Lib.hid (HL2.out.on HV3.out)
  have hs3 := HV3.out.size
  rcases hpo.2 with ⟨_, hx0⟩ | ⟨gq, cq, curq, hv, hgq, hcurq, hncq, -, -, -⟩
  · exact absurd hx0 (by omega)
  subst hv
  have HPQ := Lib.hid (show ∀ j, j < h + (r + 1) → w3.cell? ⟨gq, 0 + j, none⟩ = some (.int .i64 (partOf PL l j)) from fun j hj => by rw [Nat.zero_add, hpo.cellAt j (by omega)]; simp [pv, hj])
  have hgq3 := lt_heap hcurq
  obtain ⟨pt, hpt⟩ : ∃ pt, pt = partOf PL l := ⟨_, rfl⟩
  rw [← hpt] at HPQ
  have HPT := Lib.hid hpt
  clear hpt hpo hcurq hb3 HU1 hr1_0 hS0 HL1 HL2
  go_loopw [4, 5, 8, 9, 10, 11, 12, 13] (fun s4 s5 s8 s9 s10 s11 s12 s13 wr => ∃ k : Nat, k ≤ 7 ∧ s10 = .int .i64 ((k : Int) + 1) ∧ s8 = .int .i64 (cutsN PL l pt k).least ∧ s9 = .bool (cutsN PL l pt k).found ∧ Hid (Lies wr s4 (cutsN PL l pt k).first (fun g => g = gl ∨ w.heap.size ≤ g)) ∧ Hid (Lies wr s5 (cutsN PL l pt k).others (fun g => g = gl ∨ w.heap.size ≤ g)) ∧ Hid (Below w3.heap.size w3 wr)) (fun _ _ _ _ s10 _ _ _ _ => 8 - (intOf s10).toNat)
  case atStart =>
    refine ⟨0, by omega, rfl, rfl, rfl, ?_, ?_, Lib.hid (Below.refl _ _)⟩
    · show Lies w3 _ (l.take (l.length / 2)) _
      rw [← HH.out]
      exact HLA.out
    · show Lies w3 _ (l.drop (l.length / 2)) _
      rw [← HH.out]
      exact HLB.out
  case round =>
    obtain ⟨k, hk, rfl, rfl, rfl, HA, HB, HW⟩ := hrel
    have hws := HW.out.size
    by_cases hk7 : k < 7
    · have hki : (k : Int) + 1 < 8 := by omega
      have HWW := Lib.hid (HV3.out.trans (HW.out.mono hs3))
      have HDD := Lib.hid (HDV.out pt ((k + 1 : Nat) : Int) gq 0 cq wr HWW.out (by omega) (fun j hj => (HW.out.cell (p := ⟨gq, 0 + j, none⟩) hgq3).trans (HPQ.out j hj)))
      obtain ⟨fd, hfd⟩ : ∃ b, b = (cutsN PL l pt k).found := ⟨_, rfl⟩
      obtain ⟨ls, hls⟩ : ∃ b, b = (cutsN PL l pt k).least := ⟨_, rfl⟩
      rw [← hfd, ← hls]
      have HFD := Lib.hid hfd
      have HLS := Lib.hid hls
      clear hfd hls
      go_upto_region 8 with (go_at_call 26; refine (HDD.out).mono ?_; rintro e w4 ⟨⟨va, vb, rfl, hoa, hob, hap⟩, hb4⟩)
      clear HDD hap
      have HW4 := Lib.hid (HW.out.trans (hb4.mono hws))
      have HWW4 := Lib.hid (HWW.out.trans (hb4.mono HWW.out.size))
      have HA4 := Lib.hid (HA.out.on hb4)
      have HB4 := Lib.hid (HB.out.on hb4)
      have hws0 := HWW.out.size
      have hsl := sel_len pt ((k + 1 : Nat) : Int) l l.length
      have hlts := sel_lt pt ((k + 1 : Nat) : Int) l N HLT.out
      have HSK := Lib.hid (show ((sel pt ((k + 1 : Nat) : Int) l l.length).1.length = 0 ∨ (sel pt ((k + 1 : Nat) : Int) l l.length).2.length = 0) → cutsN PL l pt (k + 1) = cutsN PL l pt k from fun h => cuts_skip h)
      have HTK := Lib.hid (show (sel pt ((k + 1 : Nat) : Int) l l.length).1.length ≠ 0 → (sel pt ((k + 1 : Nat) : Int) l l.length).2.length ≠ 0 → (fd = false ∨ costL PL (sel pt ((k + 1 : Nat) : Int) l l.length).1 + costL PL (sel pt ((k + 1 : Nat) : Int) l l.length).2 < ls) → cutsN PL l pt (k + 1) = ⟨(sel pt ((k + 1 : Nat) : Int) l l.length).1, (sel pt ((k + 1 : Nat) : Int) l l.length).2, costL PL (sel pt ((k + 1 : Nat) : Int) l l.length).1 + costL PL (sel pt ((k + 1 : Nat) : Int) l l.length).2, true⟩ from fun h1 h2 h => cuts_take h1 h2 (by rw [← HFD.out, ← HLS.out]; exact h))
      have HKE := Lib.hid (show ¬ (fd = false ∨ costL PL (sel pt ((k + 1 : Nat) : Int) l l.length).1 + costL PL (sel pt ((k + 1 : Nat) : Int) l l.length).2 < ls) → cutsN PL l pt (k + 1) = cutsN PL l pt k from fun h => cuts_keep (by rw [← HFD.out, ← HLS.out]; exact h))
      rw [← HNN.out] at hoa hob
      obtain ⟨A, hA⟩ : ∃ A, A = (sel pt ((k + 1 : Nat) : Int) l l.length).1 := ⟨_, rfl⟩
      obtain ⟨C, hC⟩ : ∃ C, C = (sel pt ((k + 1 : Nat) : Int) l l.length).2 := ⟨_, rfl⟩
      rw [← hA] at hoa hsl hlts HSK HTK HKE
      rw [← hC] at hob hsl hlts HSK HTK HKE
      clear hA hC
      have hln := HNN.out
      have hAm : A.length ≤ 1000 := by omega
      have hCm : C.length ≤ 1000 := by omega
      obtain ⟨aa, ka, rfl⟩ := own_slice hoa
      obtain ⟨ac, kc, rfl⟩ := own_slice hob
      have HOA := Lib.hid hoa
      have HOB := Lib.hid hob
      clear hoa hob
      obtain ⟨na, hna⟩ : ∃ n, n = A.length := ⟨_, rfl⟩
      obtain ⟨nc, hnc⟩ : ∃ n, n = C.length := ⟨_, rfl⟩
      rw [← hna, ← hnc]
      have HNA := Lib.hid hna
      have HNC := Lib.hid hnc
      have HLT2 := Lib.hid hlts
      have hAmn : na ≤ 1000 := by omega
      have hCmn : nc ≤ 1000 := by omega
      clear hna hnc hlts hsl hln hAm hCm
      by_cases a0 : na = 0
      · subst a0
        have HE := Lib.hid (HSK.out (Or.inl HNA.out.symm))
        clear HSK HTK HKE
        go_wp2_with fail
        go_roundw
        case rel => exact ⟨k + 1, by omega, by go_num, by rw [HE.out, ← HLS.out], by rw [HE.out, ← HFD.out], Lib.hid (by rw [HE.out]; exact HA4.out), Lib.hid (by rw [HE.out]; exact HB4.out), HW4⟩
        case measure => simp [intOf]; omega
      · have fa : (((na : Nat) : Int) == 0) = false := by simp; omega
        by_cases c0 : nc = 0
        · subst c0
          have HE := Lib.hid (HSK.out (Or.inr HNC.out.symm))
          clear HSK HTK HKE
          go_wp2_with fail
          go_roundw
          case rel => exact ⟨k + 1, by omega, by go_num, by rw [HE.out, ← HLS.out], by rw [HE.out, ← HFD.out], Lib.hid (by rw [HE.out]; exact HA4.out), Lib.hid (by rw [HE.out]; exact HB4.out), HW4⟩
          case measure => simp [intOf]; omega
        · have fc : (((nc : Nat) : Int) == 0) = false := by simp; omega
          have e1 := HNA.out
          have e2 := HNC.out
          obtain ⟨ga, oa, ca, hva, hca, hga, hPa, hcells⟩ := own_lies HOA.out (by omega) (fun g => g = gl ∨ w.heap.size ≤ g) (fun q hq => Or.inr (by omega))
          have hLA := own_lies HOA.out (by omega) (fun g => g = gl ∨ w.heap.size ≤ g) (fun q hq => Or.inr (by omega))
          have hLC := own_lies HOB.out (by omega) (fun g => g = gl ∨ w.heap.size ≤ g) (fun q hq => Or.inr (by omega))
          obtain ⟨gc, oc, cc, hvc, hcc, hgc, hPc, hcells2⟩ := own_lies HOB.out (by omega) (fun g => g = gl ∨ w.heap.size ≤ g) (fun q hq => Or.inr (by omega))
          have hCA : ∀ W, Below w4.heap.size w4 W → Calls Try.prog 27 #[.pointer (some ⟨mb, 0, none⟩), .slice aa na ka] W fun e w' => e = .returned (.int .i64 (costL PL A)) ∧ Below W.heap.size W w' := fun W hb => by
            rw [e1, hva]
            exact HCO.out A ga oa ca W (HWW4.out.trans (hb.mono HWW4.out.size)) (by omega) (by omega) HLT2.out.1 hca (Nat.lt_of_lt_of_le hga hb.size) (fun j hj => (hb.cell (p := ⟨ga, oa + j, none⟩) hga).trans (hcells j hj))
          have hCC : ∀ W, Below w4.heap.size w4 W → Calls Try.prog 27 #[.pointer (some ⟨mb, 0, none⟩), .slice ac nc kc] W fun e w' => e = .returned (.int .i64 (costL PL C)) ∧ Below W.heap.size W w' := fun W hb => by
            rw [e2, hvc]
            exact HCO.out C gc oc cc W (HWW4.out.trans (hb.mono HWW4.out.size)) (by omega) (by omega) HLT2.out.2 hcc (Nat.lt_of_lt_of_le hgc hb.size) (fun j hj => (hb.cell (p := ⟨gc, oc + j, none⟩) hgc).trans (hcells2 j hj))
          have b1 := costL_le PL A (by omega)
          have b2 := costL_le PL C (by omega)
          obtain ⟨ka2, hka2⟩ : ∃ x, x = costL PL A := ⟨_, rfl⟩
          obtain ⟨kc2, hkc2⟩ : ∃ x, x = costL PL C := ⟨_, rfl⟩
          rw [← hka2] at hCA b1 HTK HKE
          rw [← hkc2] at hCC b2 HTK HKE
          have hwr : IntKind.i64.wrap (ka2 + kc2) = ka2 + kc2 := by rw [IntKind.wrap_i64]; omega
          have HCA := Lib.hid hCA
          have HCC := Lib.hid hCC
          rw [← e1] at hLA
          rw [← e2] at hLC
          have HLA4 := Lib.hid hLA
          have HLC4 := Lib.hid hLC
          have HN1 := Lib.hid (show A.length ≠ 0 by omega)
          have HN2 := Lib.hid (show C.length ≠ 0 by omega)
          clear hCA hCC hLA hLC hka2 hkc2 e1 e2 hva hvc hcells hcells2 hca hcc hga hgc hPa hPc b1 b2 HOA HOB HSK
          go_wp2_with fail
          refine (HCA.out _ (Below.refl _ _)).mono ?_
          rintro e w5 ⟨rfl, hb5⟩
          go_wp2_with fail
          refine (HCC.out _ hb5).mono ?_
          rintro e w6 ⟨rfl, hb6⟩
          have hb46 := hb5.trans (hb6.mono hb5.size)
          have HW6 := Lib.hid (HW4.out.trans (hb46.mono HW4.out.size))
          have HA6 := Lib.hid (HA4.out.on hb46)
          have HB6 := Lib.hid (HB4.out.on hb46)
          have HLA6 := Lib.hid (HLA4.out.on hb46)
          have HLC6 := Lib.hid (HLC4.out.on hb46)
          clear hb46 hb5 hb6 HA4 HB4 HLA4 HLC4 HW4
          cases hf : fd
          · have HE := Lib.hid (HTK.out HN1.out HN2.out (Or.inl hf))
            rw [hf] at *
            go_wp2_with fail
            go_roundw
            case rel => exact ⟨k + 1, by omega, by go_num, by rw [HE.out], by rw [HE.out], Lib.hid (by rw [HE.out]; exact HLA6.out), Lib.hid (by rw [HE.out]; exact HLC6.out), HW6⟩
            case measure => simp [intOf]; omega
          · by_cases hlt : ka2 + kc2 < ls
            · have HE := Lib.hid (HTK.out HN1.out HN2.out (Or.inr hlt))
              go_wp2_with fail
              go_roundw
              case rel => exact ⟨k + 1, by omega, by go_num, by rw [HE.out], by rw [HE.out], Lib.hid (by rw [HE.out]; exact HLA6.out), Lib.hid (by rw [HE.out]; exact HLC6.out), HW6⟩
              case measure => simp [intOf]; omega
            · have HE := Lib.hid (HKE.out (by rw [hf]; simp; omega))
              have HF := Lib.hid hf
              go_wp2_with fail
              go_roundw
              case rel => exact ⟨k + 1, by omega, by go_num, by rw [HE.out, ← HLS.out], by rw [HE.out, ← HFD.out, HF.out], Lib.hid (by rw [HE.out]; exact HA6.out), Lib.hid (by rw [HE.out]; exact HB6.out), HW6⟩
              case measure => simp [intOf]; omega
    · have hkm : k = 7 := by omega
      subst hkm
      go_wp2_with fail
      go_ret2
      have e := HPT.out
      subst e
      exact ⟨⟨_, _, rfl, HA.out, HB.out⟩, HV3.out.trans (HW.out.mono hs3)⟩
  done

end Go.Proofs.Ytoppcnkfgmbpfaa.Tr
