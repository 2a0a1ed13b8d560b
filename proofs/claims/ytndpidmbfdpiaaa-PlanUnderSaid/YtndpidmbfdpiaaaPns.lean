/- Layer 25: the program's Under, over slices.Sort's contracts. -/
import Derived.Test.YtndpidmbfdpiaaaPnr
import Derived.Test.YtndpidmbfdpiaaaPnj
import Derived.Sort.Grow
namespace Go.Proofs.Ytndpidmbfdpiaaa.Pn
open Go Go.RowKit Go.Shelf Go.Sort Go.Proofs Go.Proofs.Ytndpidmbfdpiaaa Go.Proofs.Ytndpidmbfdpiaaa.Au Go.Proofs.Ytndpidmbfdpiaaa.Re
set_option linter.unusedVariables false
set_option linter.unusedSimpArgs false

/-- what slices.Sort does to numbers -/
def Sorts : Prop :=
  (∀ (blk off cap : Nat) (zs : List Int) (w : World), Holds (Value.int .i64) w blk off zs.toArray → blk < w.heap.size → zs.length < 4611686018427387904 →
    Calls Try.prog 23 #[.slice (some ⟨blk, off, none⟩) zs.length cap] w fun e w' => e = .returned (.tuple #[]) ∧ ∃ n os, w' = grow (putRow (Value.int .i64) (Sort.ahead w n) blk off (zs.mergeSort fun x y => decide (x ≤ y)).toArray) os) ∧
  ∀ (p : Option Addr) (cap : Nat) (w : World), Calls Try.prog 23 #[.slice p 0 cap] w fun e w' => e = .returned (.tuple #[]) ∧ w' = w

theorem mapBlock_other (w : World) (q : Nat) (f : Array Value → Array Value) {k : Nat} (h : k ≠ q) : (mapBlock w q f).heap[k]? = w.heap[k]? := by
  simp only [mapBlock]
  rw [Array.getElem?_modify]
  rw [if_neg (Ne.symm h)]

theorem sort_own (hs : Sorts) (B : Nat) (a : Option Addr) (n c : Nat) (l : List Int) (w : World) (h : w.ownsRow B 3 1 (.slice a n c) n (iv l)) (hn : n ≤ 1000000) (hB : B ≤ w.heap.size) :
    Calls Try.prog 23 #[.slice a n c] w fun e w' => e = .returned (.tuple #[]) ∧ Ro w' (.slice a n c) (l.mergeSort fun x y => decide (x ≤ y)) ∧ Below B w w' := by
  have hl := own_len h
  by_cases h0 : n = 0
  · subst h0
    have hl0 : l = [] := List.eq_nil_of_length_eq_zero hl.symm
    refine (hs.2 a c w).mono ?_
    rintro e w' ⟨rfl, rfl⟩
    refine ⟨rfl, ?_, Below.refl _ _⟩
    subst hl0
    have hr := own_ro h (by omega)
    rw [List.mergeSort_nil]
    exact hr
  · obtain ⟨q, rfl, hBq, hqw, _, _⟩ := own_cell h (j := 0) (by omega)
    have hcap := (own_ro h (by omega)).cap
    have hH : Holds (Value.int .i64) w q 0 l.toArray := by
      intro j hj
      have hj' : j < n := by simp at hj; omega
      obtain ⟨q', hq', _, _, hc, hf⟩ := own_cell h hj'
      cases hq'
      rw [Nat.zero_add]
      refine ⟨?_, hf⟩
      rw [hc]
      have hjl : j < l.length := by omega
      simp [List.getD, hjl]
    have hcall := hs.1 q 0 c l w hH hqw (by omega)
    rw [← hl] at hcall
    refine hcall.mono ?_
    rintro e w' ⟨rfl, m, os, rfl⟩
    have hsl : (l.mergeSort fun x y => decide (x ≤ y)).length = n := by rw [List.length_mergeSort]; exact hl.symm
    have hsz : (putRow (Value.int .i64) (Sort.ahead w m) q 0 (l.mergeSort fun x y => decide (x ≤ y)).toArray).heap.size = w.heap.size := by simp
    refine ⟨rfl, ⟨_, n, c, rfl, hsl.symm, ⟨by omega, hcap⟩, .inr ⟨q, 0, rfl, ?_, fun j hj => ?_⟩⟩, ?_⟩
    · show q < (_ ++ os : Array Obj).size
      rw [Array.size_append]
      show q < (putRow (Value.int .i64) (Sort.ahead w m) q 0 (l.mergeSort fun x y => decide (x ≤ y)).toArray).heap.size + _
      omega
    · rw [cell?_grow _ _ _ (by rw [hsz]; exact hqw)]
      have := cell?_putRow (Value.int .i64) (Sort.ahead w m) q 0 l.toArray (l.mergeSort fun x y => decide (x ≤ y)).toArray (holds_ahead _ _ _ _ _ _ hH) (by simp) j (by simp; omega)
      rw [this]
      simp [List.getD, hsl, hj, List.getElem?_eq_getElem]
    · refine ⟨rfl, rfl, rfl, ?_, fun k hk => ?_⟩
      · show w.heap.size ≤ (_ ++ os : Array Obj).size
        rw [Array.size_append]
        show w.heap.size ≤ (putRow (Value.int .i64) (Sort.ahead w m) q 0 (l.mergeSort fun x y => decide (x ≤ y)).toArray).heap.size + _
        omega
      · rw [heap_grow_old _ _ (by rw [hsz]; omega)]
        exact mapBlock_other _ _ _ (by omega)

theorem zeroF (w : World) : (zeroValue 48).run Try.prog w = .ok .nilFunc w := by kernel_rfl

set_option maxHeartbeats 8000000 in
set_option maxRecDepth 100000 in
theorem under_yes (hs : Sorts) (a : Option Addr) (c n : Nat) (L : List (List Int)) (q : Nat) (w : World) (hn : n = L.length) (hq : q < n) (h0 : chk L = 0) (hP : PAt w a n L) :
    Calls Try.prog 13 #[.slice a n c, .int .i64 q] w fun e w' => (∃ v, e = .returned v ∧ Ro w' v (sorted L (rr L L[q]! n) n)) ∧ Below w.heap.size w w' := by
  have HN := Lib.hid hn
  have HW := Lib.hid (whole_ord (chk_full h0))
  have HF := Lib.hid (named_fits (chk_named h0))
  have hn256 : n ≤ 256 := by
    have h := chk_named h0
    unfold named at h
    rw [← HN.out] at h
    split at h
    · cases h
    · omega
  obtain ⟨i, hi, ei⟩ := stands HW.out.ok HW.out.len q (by omega)
  have hsame := under_same HF.out HW.out hi
  rw [ei, Int.toNat_natCast, ← HN.out] at hsame
  rw [← hsame]
  have HP := Lib.hid hP
  have hq' : (q : Int) < n := by omega
  have d0 : decide ((q : Int) < 0) = false := by simp
  have d1 : decide ((n : Int) ≤ (q : Int)) = false := by simp; omega
  have hlen := HW.out.len
  have hdown := seek_down HF.out HW.out n i (by omega) hi [] (ok_nil L)
  have HOK := Lib.hid (show Ok L (seek L n (q : Int) []) by rw [← ei]; exact hdown.ok)
  have HS9 := Lib.hid (sort_eq HOK.out)
  rw [← HN.out] at HS9
  have HEI := Lib.hid ei
  have HI := Lib.hid (show i < n by omega)
  have HIO := Lib.hid hi
  have HC0 := Lib.hid h0
  clear hsame hdown hlen hP h0 hn hi ei
  have hb0 := Ve.below_n1 w (.cells #[.slice a n c] 26)
  have hr0 := heap_alloc_last w (.cells #[.slice a n c] 26)
  obtain ⟨y0, hy0⟩ : ∃ y, w.alloc (.cells #[.slice a n c] 26) = y := ⟨_, rfl⟩
  obtain ⟨P, hPe⟩ : ∃ P, P = w.heap.size := ⟨_, rfl⟩
  rw [hy0] at hb0 hr0
  rw [← hPe] at hr0
  have HPE := Lib.hid hPe
  have HB0 := Lib.hid hb0
  have HR0 := Lib.hid hr0
  have hch := check_any a c n L y0 HN.out (HP.out.on hb0)
  rw [HC0.out] at hch
  have hz1 := zeroS
  have hz2 := zeroF
  have cp := cell_of_row _ _ 0 _ _ _ hr0
  simp at cp
  clear hb0 hr0
  go_enter Try.func13, Try.ntmps13
  go_upto_region 1 with fail
  try rw [hy0]
  try rw [← hPe]
  clear hy0 hPe
  go_upto_region 3 with (go_at_call 8; refine hch.mono ?_; rintro e y1 ⟨rfl, hb1⟩)
  have HP1 := Lib.hid ((hb1.block P (lt_heap HR0.out)).trans HR0.out)
  have HB1 := Lib.hid (HB0.out.trans (hb1.mono HB0.out.size))
  clear hch hb1 cp
  go_upto_region 6 with fail
  have hr2 := rows3 y1 (.cells #[.slice none 0 0] 28) (.cells ZS 47) (.cells #[.nilFunc] 48)
  have hb2 := Ve.below_n3 y1 (.cells #[.slice none 0 0] 28) (.cells ZS 47) (.cells #[.nilFunc] 48)
  obtain ⟨y2, hy2⟩ : ∃ y, ((y1.alloc (.cells #[.slice none 0 0] 28)).alloc (.cells ZS 47)).alloc (.cells #[.nilFunc] 48) = y := ⟨_, rfl⟩
  obtain ⟨C, hC⟩ : ∃ C, C = y1.heap.size := ⟨_, rfl⟩
  have hF : y2.rowIs (C + 1) 47 256 (fun i => .bool (has [] (i : Int))) := by
    have h := (row_new (y1.alloc (.cells #[.slice none 0 0] 28))).alloc (.cells #[.nilFunc] 48)
    rw [hy2] at h
    rw [hC]
    simpa using h
  rw [hy2] at hr2 hb2 ⊢
  rw [← hC] at hr2 ⊢
  have hPC : P < C := by have := lt_heap HP1.out; omega
  have HP2 := Lib.hid ((hb2.block P (by omega)).trans HP1.out)
  have HB2 := Lib.hid (HB1.out.trans (hb2.mono HB1.out.size))
  have HR2 := Lib.hid hr2
  have HF2 := Lib.hid hF
  clear hr2 hb2 hF hy2 hC HP1 HB1
  have cs := cell_of_row _ _ 0 _ _ _ HR2.out.2.2
  simp at cs
  have fs : y2.frozen? ⟨C + 1 + 1, 0, none⟩ = false := by simp [World.frozen?, HR2.out.2.2]
  go_upto_region 7 with fail
  obtain ⟨F, hF⟩ : ∃ F, F = C + 1 := ⟨_, rfl⟩
  obtain ⟨S, hS⟩ : ∃ S, S = C + 1 + 1 := ⟨_, rfl⟩
  rw [← hS] at HR2 ⊢
  rw [← hF] at HR2 HF2 ⊢
  have hCF : C < F := by omega
  have hFS : F < S := by omega
  have HA := Lib.hid (show SkAt w (y2.setCell ⟨S, 0, none⟩ (SeekV P F C S)) P F C S a n c [] from
    ⟨by rw [HPE.out]; exact HB2.out.setCell (p := ⟨S, 0, none⟩) (show w.heap.size ≤ S by have := HPE.out; omega) _,
     (Below.heap_setCell y2 ⟨S, 0, none⟩ _ P (by show P ≠ S; omega)).trans HP2.out,
     HF2.out.of_block (Below.heap_setCell y2 ⟨S, 0, none⟩ _ F (by show F ≠ S; omega)),
     by simpa using heap_setCell_same y2 S 0 _ _ (SeekV P F C S) HR2.out.2.2,
     none, 0, (Below.heap_setCell y2 ⟨S, 0, none⟩ _ C (by show C ≠ S; omega)).trans HR2.out.1, World.ownsRow_nil _ _ _ _⟩)
  obtain ⟨y3, hy3⟩ : ∃ y, y2.setCell ⟨S, 0, none⟩ (SeekV P F C S) = y := ⟨_, rfl⟩
  rw [hy3] at HA
  try rw [hy3]
  clear hy3 cs fs hF hS
  have cs := cell_of_row _ _ 0 _ _ _ HA.out.s
  simp at cs
  have eg := enters_seek
  have hseek := seek_any a c n L (ord L L.length) HN.out hn256 HF.out HW.out w HP.out P F C S HPE.out hPC hCF hFS n i HI.out HIO.out [] y3 (ok_nil L) HA.out
  rw [HEI.out] at hseek
  obtain ⟨M, hM⟩ : ∃ M, M = seek L n (q : Int) [] := ⟨_, rfl⟩
  rw [← hM] at hseek HOK HS9
  have HMM := Lib.hid hM
  clear hM
  go_upto_region 8 with (go_at_fn 22; refine hseek.mono ?_; rintro e y4 ⟨rfl, h4⟩)
  obtain ⟨la, lc, hlC, hown⟩ := h4.l
  obtain ⟨m, hm⟩ : ∃ m, m = M.length := ⟨_, rfl⟩
  rw [← hm] at hlC hown
  have hm256 : m ≤ 256 := by have := ok_len HOK.out; have := HN.out; omega
  have hcC := cell_of_row _ _ 0 _ _ _ hlC
  simp at hcC
  have hsS := lt_heap h4.s
  have hsort := sort_own hs (S + 1) la m lc M y4 hown (by omega) (by omega)
  rw [HS9.out] at hsort
  have H4 := Lib.hid h4
  have HLC := Lib.hid hlC
  clear h4 hlC hown hm cs hseek
  go_upto_region 9 with (go_at_call 23; refine hsort.mono ?_; rintro e y5 ⟨rfl, hro5, hb5⟩)
  have hlC5 := (hb5.block C (by omega)).trans HLC.out
  have hc5 := cell_of_row _ _ 0 _ _ _ hlC5
  simp at hc5
  have HR5 := Lib.hid hro5
  have HB5 := Lib.hid hb5
  clear hro5 hb5 hcC hlC5
  go_wp2_with fail
  go_ret
  rw [HMM.out] at HR5
  refine ⟨⟨_, rfl, HR5.out⟩, ?_⟩
  have hb := H4.out.below
  rw [HPE.out] at hb
  exact hb.trans (HB5.out.mono (by have := HPE.out; omega))

set_option maxHeartbeats 4000000 in
set_option maxRecDepth 100000 in
theorem under_no (a : Option Addr) (c n : Nat) (L : List (List Int)) (q : Int) (w : World) (hn : n = L.length) (hq : q < 0 ∨ (n : Int) ≤ q ∨ chk L ≠ 0) (hP : PAt w a n L) :
    Calls Try.prog 13 #[.slice a n c, .int .i64 q] w fun e w' => e = .returned (.slice none 0 0) ∧ Below w.heap.size w w' := by
  have hb0 := Ve.below_n1 w (.cells #[.slice a n c] 26)
  have hr0 := heap_alloc_last w (.cells #[.slice a n c] 26)
  obtain ⟨y0, hy0⟩ : ∃ y, w.alloc (.cells #[.slice a n c] 26) = y := ⟨_, rfl⟩
  rw [hy0] at hb0 hr0
  have hch := check_any a c n L y0 hn (hP.on hb0)
  have cp := cell_of_row _ _ 0 _ _ _ hr0
  simp at cp
  have HB0 := Lib.hid hb0
  clear hb0 hr0 hP hn
  by_cases h1 : q < 0
  · have d0 : decide (q < 0) = true := by simp [h1]
    clear hq hch
    go_enter Try.func13, Try.ntmps13
    go_upto_region 1 with fail
    try rw [hy0]
    go_wp2_with fail
    go_ret
    exact ⟨rfl, HB0.out⟩
  · have d0 : decide (q < 0) = false := by simp; omega
    by_cases h2 : (n : Int) ≤ q
    · have d1 : decide ((n : Int) ≤ q) = true := by simp [h2]
      clear hq hch
      go_enter Try.func13, Try.ntmps13
      go_upto_region 1 with fail
      try rw [hy0]
      go_wp2_with fail
      go_ret
      exact ⟨rfl, HB0.out⟩
    · have d1 : decide ((n : Int) ≤ q) = false := by simp; omega
      have h3 : chk L ≠ 0 := by
        rcases hq with h | h | h
        · omega
        · omega
        · exact h
      obtain ⟨E, hE⟩ : ∃ E, E = chk L := ⟨_, rfl⟩
      rw [← hE] at hch h3
      have d2 : decide (E = 0) = false := by simp [h3]
      clear hE hq
      go_enter Try.func13, Try.ntmps13
      go_upto_region 1 with fail
      try rw [hy0]
      go_wp2_with (go_at_call 8; refine hch.mono ?_; rintro e y1 ⟨rfl, hb1⟩)
      go_ret
      exact ⟨rfl, HB0.out.trans (hb1.mono HB0.out.size)⟩
end Go.Proofs.Ytndpidmbfdpiaaa.Pn
