/- Trees: how deep a tree is, by the program. -/
import Derived.Test.YtoppcnkfgmbpfaaE40
import Derived.Test.YtoppcnkfgmbpfaaE34
import Derived.Deep.MidRow
namespace Go.Proofs.Ytoppcnkfgmbpfaa.Tr
open Go.RowKit Go.Proofs.Ytoppcnkfgmbpfaa Go.Proofs.Ytoppcnkfgmbpfaa.Wa Go.Proofs.Ytoppcnkfgmbpfaa.Ve Go.Proofs.Ytoppcnkfgmbpfaa.Au Go.Proofs.Ytoppcnkfgmbpfaa.Bx
set_option linter.unusedVariables false
set_option linter.unusedSimpArgs false

/-- a node's cells -/
def ncs (PL : Nat → Int) (nd : Nd) : List Value := (nd.nums PL).map fun x => .int .i64 x
def nrow (PL : Nat → Int) (nd : Nd) : Array Value := (ncs PL nd).toArray

theorem ncs_len (PL : Nat → Int) (nd : Nd) : (ncs PL nd).length = 16 := rfl
theorem nrow_one (PL : Nat → Int) (nd : Nd) : (nrow PL nd).all (·.oneCell') = true := by
  simp [nrow, ncs, Value.oneCell']

theorem flat_at (PL : Nat → Int) (NS : List Nd) (i : Nat) (nd : Nd) (h : NS[i]? = some nd) (j : Nat) (v : Value) (hv : (ncs PL nd)[j]? = some v) : (flatNd PL NS)[i * 16 + j]? = some v := by
  have hi : i < NS.length := by
    rcases Nat.lt_or_ge i NS.length with h1 | h1
    · exact h1
    · rw [List.getElem?_eq_none h1] at h; cases h
  have hj : j < 16 := by
    rcases Nat.lt_or_ge j 16 with h1 | h1
    · exact h1
    · rw [List.getElem?_eq_none (by rw [ncs_len]; exact h1)] at hv; cases hv
  have hs : NS = NS.take i ++ nd :: NS.drop (i + 1) := by
    rw [List.getElem?_eq_getElem hi] at h
    injection h with h
    rw [← h, List.getElem_cons_drop, List.take_append_drop]
  rw [hs, flatNd_append]
  have hl : (flatNd PL (NS.take i)).length = i * 16 := by rw [flatNd_len, List.length_take]; congr 1; omega
  rw [List.getElem?_append_right (by omega), show i * 16 + j - (flatNd PL (NS.take i)).length = j by omega]
  show (List.flatMap _ (nd :: NS.drop (i + 1)))[j]? = some v
  rw [List.flatMap_cons, List.getElem?_append_left (by show j < (ncs PL nd).length; rw [ncs_len]; exact hj)]
  exact hv

def D (len : Nat) (NS : List Nd) (i : Nat) : Int × (Nat → Int) := druns len (NS.take i) 0 0 (fun _ => 0)

theorem take_snoc (NS : List Nd) (i : Nat) (nd : Nd) (h : NS[i]? = some nd) : NS.take (i + 1) = NS.take i ++ [nd] := by
  rw [List.take_add_one, h]
  rfl

theorem D_step (len : Nat) (NS : List Nd) (i : Nat) (nd : Nd) (h : NS[i]? = some nd) : D len NS (i + 1) = (max (D len NS i).1 ((D len NS i).2 i + 1), dround len (D len NS i).2 i nd) := by
  have hi : i < NS.length := by
    rcases Nat.lt_or_ge i NS.length with h1 | h1
    · exact h1
    · rw [List.getElem?_eq_none h1] at h; cases h
  unfold D
  rw [take_snoc NS i nd h, druns_append]
  have hl : (NS.take i).length = i := by rw [List.length_take]; omega
  rw [hl, Nat.zero_add]
  rfl

theorem reach_bd (len : Nat) (ab : Nat → Int) (i : Nat) (t : Int) (b : Int) (h : ∀ k, 0 ≤ ab k ∧ ab k ≤ b) (k : Nat) : 0 ≤ reach len ab i t k ∧ reach len ab i t k ≤ b + 1 := by
  unfold reach
  have h1 := h i
  have h2 := h k
  split <;> omega

theorem reach_bd2 (len : Nat) (ab ab' : Nat → Int) (i : Nat) (t : Int) (b : Int) (h0 : ab' i ≤ b) (h : ∀ k, 0 ≤ ab' k ∧ ab' k ≤ b + 1) (k : Nat) : 0 ≤ reach len ab' i t k ∧ reach len ab' i t k ≤ b + 1 := by
  unfold reach
  have h1 := h i
  have h2 := h k
  split <;> omega

theorem reach_self (len : Nat) (ab : Nat → Int) (i : Nat) (t : Int) : reach len ab i t i = ab i := by
  unfold reach
  rw [if_neg (by omega)]

theorem D_bd (len : Nat) (NS : List Nd) : ∀ i, i ≤ NS.length → ∀ k, 0 ≤ (D len NS i).2 k ∧ (D len NS i).2 k ≤ i
  | 0, _, k => ⟨Int.le_refl _, Int.le_refl _⟩
  | i + 1, hi, k => by
    have hn : NS[i]? = some NS[i] := List.getElem?_eq_getElem (by omega)
    rw [D_step len NS i _ hn]
    have ih := D_bd len NS i (by omega)
    have h1 := reach_bd len (D len NS i).2 i NS[i].left i ih
    have := reach_bd2 len (D len NS i).2 (reach len (D len NS i).2 i NS[i].left) i NS[i].right i (by rw [reach_self]; exact (ih i).2) h1 k
    show 0 ≤ dround len (D len NS i).2 i NS[i] k ∧ dround len (D len NS i).2 i NS[i] k ≤ ((i + 1 : Nat) : Int)
    unfold dround
    omega

theorem pv_set (f : Nat → Int) (n t : Nat) (x : Int) : (pv f n).set t (.int .i64 x) = pv (fun k => if k = t then x else f k) n := by
  apply List.ext_getElem?
  intro j
  by_cases hj : j < n
  · by_cases hjt : t = j
    · subst hjt; simp [pv, hj]
    · simp [pv, hj, hjt, Ne.symm hjt]
  · simp [pv, hj]

theorem pv_at (f : Nat → Int) (n j : Nat) (h : j < n) : (pv f n)[j]? = some (.int .i64 (f j)) := by simp [pv, h]

theorem pv_zero (n : Nat) : (madeCells #[.int .i64 0] n).toList = pv (fun _ => 0) n := by
  rw [toList_madeCells_one]
  apply List.ext_getElem?
  intro j
  by_cases hj : j < n
  · simp [pv, hj]
  · simp [pv, hj]

/-- the numbers behind a node, one by one -/
def ab2 (len : Nat) (ab : Nat → Int) (i : Nat) (l r : Int) : Nat → Nat → Int
  | 0 => ab
  | 1 => reach len ab i l
  | _ => reach len (reach len ab i l) i r

def in2 (l r : Int) (k : Nat) : Int := if k = 0 then l else r

theorem ab2_step (len : Nat) (ab : Nat → Int) (i : Nat) (l r : Int) (k : Nat) (h : k < 2) : ab2 len ab i l r (k + 1) = reach len (ab2 len ab i l r k) i (in2 l r k) := by
  match k, h with
  | 0, _ => rfl
  | 1, _ => rfl

theorem ab2_self (len : Nat) (ab : Nat → Int) (i : Nat) (l r : Int) (k : Nat) : ab2 len ab i l r k i = ab i := by
  match k with
  | 0 => rfl
  | 1 => exact reach_self _ _ _ _
  | k + 2 => show reach len (reach len ab i l) i r i = _; rw [reach_self, reach_self]

theorem reach_set (len : Nat) (ab : Nat → Int) (i t : Nat) (h : i < t) (hl : t < len) : reach len ab i (t : Int) = fun k => if k = t then ab i + 1 else ab k := by
  funext k
  unfold reach
  by_cases hk : k = t
  · subst hk; rw [if_pos (by omega), if_pos rfl]
  · rw [if_neg (by omega), if_neg hk]

theorem reach_no (len : Nat) (ab : Nat → Int) (i : Nat) (t : Int) (h : ¬ ((i : Int) < t ∧ t < len)) : reach len ab i t = ab := by
  funext k
  unfold reach
  rw [if_neg (by omega)]

theorem isLeaf_any (cs : Array Value) (c : Int) (h15 : cs[15]? = some (.int .i64 c)) (hsz : cs.size = 16) (h1 : cs.all (·.oneCell') = true) (w : World) : Calls Try.prog 12 #[.agg cs] w fun e w' => e = .returned (.bool (decide (0 < c))) ∧ Below w.heap.size w w' := by
  go_enter Try.func12, Try.ntmps12
  go_upto_region 1 with fail
  have hr := heap_alloc_last w (.cells cs 45)
  have hc := (cell_of_row _ _ 15 _ _ _ hr).trans h15
  have hb := below_n1 w (.cells cs 45)
  obtain ⟨y, hy⟩ : ∃ y, w.alloc (.cells cs 45) = y := ⟨_, rfl⟩
  rw [hy] at hc hb ⊢
  clear hy hr
  go_wp2
  go_ret
  exact ⟨rfl, hb⟩

set_option maxHeartbeats 4000000 in
set_option maxRecDepth 100000 in
theorem deep_p (PL : Nat → Int) (NS : List Nd) (b gn cap : Nat) (hN : NS.length ≤ 100000) (vo : Value) (ao : Option Addr) (no ko : Nat) (hvo : vo = .slice ao no ko) (w : World) (hr : w.ownsRow b 45 16 (.slice (some ⟨gn, 0, none⟩) NS.length cap) NS.length (flatNd PL NS)) :
    Calls Try.prog 9 #[.agg #[.slice (some ⟨gn, 0, none⟩) NS.length cap, vo]] w fun e w' => e = .returned (.int .i64 (D NS.length NS NS.length).1) ∧ Below w.heap.size w w' := by

  subst hvo
  obtain ⟨j0, ji, jz0, jz1, jz2⟩ := info_parts infoInt1
  have HR := Lib.hid hr
  have hgn := (hr.lt gn rfl).2
  clear hr
  obtain ⟨len, hlen⟩ : ∃ n, n = NS.length := ⟨_, rfl⟩
  rw [← hlen]
  have HLN := Lib.hid hlen
  have hN2 : len ≤ 100000 := by omega
  clear hlen hN
  go_enter Try.func9, Try.ntmps9
  go_upto_region 1 with fail
  have hR := Au.rows1 w (.cells #[.slice (some ⟨gn, 0, none⟩) len cap, .slice ao no ko] 27)
  have HUx := below_n1 w (.cells #[.slice (some ⟨gn, 0, none⟩) len cap, .slice ao no ko] 27)
  obtain ⟨y0, hy0⟩ : ∃ y0, w.alloc (.cells #[.slice (some ⟨gn, 0, none⟩) len cap, .slice ao no ko] 27) = y0 := ⟨_, rfl⟩
  rw [hy0] at hR HUx ⊢
  clear hy0
  have HU0 := Lib.hid HUx
  clear HUx
  have hr0_0 := hR
  clear hR
  go_upto_region 2 with fail
  have hsz0 := HU0.out.size
  have hrt := lt_heap hr0_0
  have HT := Lib.hid hr0_0
  have c0_0 := cell_of_row _ _ 0 _ _ _ hr0_0
  have c0_1 := cell_of_row _ _ 1 _ _ _ hr0_0
  simp at c0_0 c0_1
  have hmax : len ≤ maxLen := by unfold maxLen; omega
  have hbyt : j0.bytes * len ≤ 281474976710656 := by rw [jz2]; omega
  go_wp2_with (first | (at_make; refine wpList_make_full _ rfl _ _ 25 rfl y0.heap.size 3 j0 (.int .i64 0) 1 Try.underlying25 ji jz0 jz1 _ _ _ _ len rfl rfl rfl rfl hbyt hmax (Nat.le_refl _) ?_))
  intro w1 hown hgrow
  rw [pv_zero] at hown
  have hb1 : Below y0.heap.size y0 w1 := (Below.refl _ _).grown hgrow (Nat.le_refl _) (fun k hk => by cases hk)
  have HT1 := (hb1.block _ hrt).trans HT.out
  have d0_0 := cell_of_row _ _ 0 _ _ _ HT1
  simp at d0_0
  have HOW := Lib.hid hown
  have HB1 := Lib.hid hb1
  have HTT := Lib.hid HT1
  obtain ⟨ga, hga⟩ : ∃ g, g = y0.heap.size := ⟨_, rfl⟩
  rw [← hga] at HOW ⊢
  rw [← hga] at HB1
  have hgaw : w.heap.size ≤ ga := by omega
  have hgan : gn < ga := by omega
  clear hga hown hgrow hb1 hmax hbyt HT1 c0_0 c0_1
  go_upto_region 4 with fail
  clear d0_0
  go_loopw [3, 5, 6, 8, 16, 33] (fun s3 s5 s6 s8 i s33 wr => ∃ k : Nat, k ≤ len ∧ i = .int .i64 k ∧ s3 = .int .i64 (D len NS k).1 ∧ Hid (wr.ownsRow ga 3 1 (.slice (some ⟨ga, 0, none⟩) len len) len (pv (D len NS k).2 len)) ∧ Hid (Below ga y0 wr)) (fun _ _ _ _ i _ _ => len - (intOf i).toNat)
  case atStart => exact ⟨0, by omega, rfl, rfl, HOW, HB1⟩
  case round =>
    obtain ⟨k, hk, rfl, rfl, HO, HB⟩ := hrel
    have hbs := HB.out.size
    by_cases hlt' : k < len
    · have hki : (k : Int) < (len : Int) := by omega
      obtain ⟨nd, hnd⟩ : ∃ nd, NS[k]? = some nd := ⟨NS[k]'(by rw [← HLN.out]; exact hlt'), List.getElem?_eq_getElem _⟩
      have HSTEP := Lib.hid (D_step len NS k nd hnd)
      have hbd := D_bd len NS k (by rw [← HLN.out]; omega)
      have HRG := Lib.hid (show wr.rangeAt gn (k * 16) (ncs PL nd) from fun j v hv => by
        have hj : j < 16 := by
          rcases Nat.lt_or_ge j 16 with h1 | h1
          · exact h1
          · rw [List.getElem?_eq_none (by rw [ncs_len]; exact h1)] at hv; cases hv
        have a1 := HR.out.cellAt (k * 16 + j) (by rw [← HLN.out]; omega)
        rw [flat_at PL NS k nd hnd j v hv] at a1
        exact (HB.out.cell (p := ⟨gn, k * 16 + j, none⟩) hgan).trans ((HU0.out.cell (p := ⟨gn, k * 16 + j, none⟩) hgn).trans a1))
      obtain ⟨a, ha⟩ : ∃ a, a = (D len NS k).2 k := ⟨_, rfl⟩
      obtain ⟨d, hd⟩ : ∃ d, d = (D len NS k).1 := ⟨_, rfl⟩
      obtain ⟨ab, hab⟩ : ∃ f, f = (D len NS k).2 := ⟨_, rfl⟩
      have ha0 := (hbd k).1
      have ha1 := (hbd k).2
      rw [← ha] at ha0 ha1
      have ha2 : a ≤ 100000 := by omega
      rw [← hd, ← hab] at HSTEP
      rw [← hab] at HO ha
      rw [← hd]
      rw [← ha] at HSTEP
      have HA := Lib.hid ha
      have cab : wr.cell? ⟨ga, k, none⟩ = some (.int .i64 a) := by rw [HO.out.cellAt k (by omega), pv_at _ _ _ hlt', HA.out]
      have CAB := Lib.hid cab
      clear hd hab ha hbd cab hnd
      obtain ⟨L, hL⟩ : ∃ x, x = nd.left := ⟨_, rfl⟩
      obtain ⟨R, hR⟩ : ∃ x, x = nd.right := ⟨_, rfl⟩
      have HN12 := Lib.hid (show (nrow PL nd)[12]? = some (.int .i64 L) from by rw [hL]; rfl)
      have HN13 := Lib.hid (show (nrow PL nd)[13]? = some (.int .i64 R) from by rw [hR]; rfl)
      have HLL := Lib.hid hL
      have HRR := Lib.hid hR
      clear hL hR
      obtain ⟨y90, rfl⟩ : ∃ y : World, y = wr := ⟨_, rfl⟩
      have HU90 := Lib.hid (Below.refl y90.heap.size y90)
      have hgal := (HO.out.lt ga rfl).2
      have HA := Lib.hid (heap_alloc_last y90 (.cells #[.int .i64 0, .int .i64 0, .int .i64 0, .int .i64 0, .int .i64 0, .int .i64 0, .int .i64 0, .int .i64 0, .int .i64 0, .int .i64 0, .int .i64 0, .int .i64 0, .int .i64 0, .int .i64 0, .int .i64 0, .int .i64 0] 45))
      have hHi := Lib.hid (show (Try.prog.info? 45).map (·.size) = some ((nrow PL nd) : Array Value).size by kernel_rfl)
      have hHz := Lib.hid (show (#[.int .i64 0, .int .i64 0, .int .i64 0, .int .i64 0, .int .i64 0, .int .i64 0, .int .i64 0, .int .i64 0, .int .i64 0, .int .i64 0, .int .i64 0, .int .i64 0, .int .i64 0, .int .i64 0, .int .i64 0, .int .i64 0] : Array Value).size = ((nrow PL nd) : Array Value).size from rfl)
      have hHo := Lib.hid (show ((nrow PL nd) : Array Value).all (·.oneCell') = true from nrow_one PL nd)
      go_upto_region 6 with (first | (with_reducible refine wpList_load_mid rfl 45 (.tmp 19) rfl gn (k * 16) rfl (ncs PL nd) _ HRG.out Try.underlying45 rfl (by kernel_rfl) ?_) | (refine Au.wpList_store_row rfl 45 (.tmp 6) (.tmp 20) rfl (y90.alloc (.cells #[.int .i64 0, .int .i64 0, .int .i64 0, .int .i64 0, .int .i64 0, .int .i64 0, .int .i64 0, .int .i64 0, .int .i64 0, .int .i64 0, .int .i64 0, .int .i64 0, .int .i64 0, .int .i64 0, .int .i64 0, .int .i64 0] 45)) #[.int .i64 0, .int .i64 0, .int .i64 0, .int .i64 0, .int .i64 0, .int .i64 0, .int .i64 0, .int .i64 0, .int .i64 0, .int .i64 0, .int .i64 0, .int .i64 0, .int .i64 0, .int .i64 0, .int .i64 0, .int .i64 0] (nrow PL nd) (y90.heap.size) 45 HA.out rfl rfl hHi.out hHz.out hHo.out ?_))
      clear hHi hHz hHo
      have hN := setRow_heap _ (y90.heap.size) _ (nrow PL nd) _ _ HA.out
      clear HA
      have hsz := HU90.out.size
      have hb := below_n1 y90 (.cells #[.int .i64 0, .int .i64 0, .int .i64 0, .int .i64 0, .int .i64 0, .int .i64 0, .int .i64 0, .int .i64 0, .int .i64 0, .int .i64 0, .int .i64 0, .int .i64 0, .int .i64 0, .int .i64 0, .int .i64 0, .int .i64 0] 45)
      have HUx := below_setRow (g := y90.heap.size) (HU90.out.trans (hb.mono HU90.out.size)) (by omega) (nrow PL nd)
      have hO : ∀ kk, kk < y90.heap.size → ((y90.alloc (.cells #[.int .i64 0, .int .i64 0, .int .i64 0, .int .i64 0, .int .i64 0, .int .i64 0, .int .i64 0, .int .i64 0, .int .i64 0, .int .i64 0, .int .i64 0, .int .i64 0, .int .i64 0, .int .i64 0, .int .i64 0, .int .i64 0] 45)).setRow (y90.heap.size) (nrow PL nd)).heap[kk]? = y90.heap[kk]? := fun kk hk => (setRow_other _ _ _ _ (by omega)).trans (hb.block _ hk)
      obtain ⟨y91, hy91⟩ : ∃ y, (y90.alloc (.cells #[.int .i64 0, .int .i64 0, .int .i64 0, .int .i64 0, .int .i64 0, .int .i64 0, .int .i64 0, .int .i64 0, .int .i64 0, .int .i64 0, .int .i64 0, .int .i64 0, .int .i64 0, .int .i64 0, .int .i64 0, .int .i64 0] 45)).setRow (y90.heap.size) (nrow PL nd) = y := ⟨_, rfl⟩
      have hs91 : y91.heap.size = y90.heap.size + 1 := by rw [← hy91]; simp [World.setRow]
      rw [hy91] at hN HUx hO ⊢
      clear hy91 hsz hb
      have HU91 := Lib.hid HUx
      clear HUx
      have hr91_0 := hN
      clear hN hO
      clear HU90
      have c12 := (cell_of_row _ _ 12 _ _ _ hr91_0).trans HN12.out
      have c13 := (cell_of_row _ _ 13 _ _ _ hr91_0).trans HN13.out
      have cab : y91.cell? ⟨ga, k, none⟩ = some (.int .i64 a) := (HU91.out.cell (p := ⟨ga, k, none⟩) hgal).trans CAB.out
      have HON := Lib.hid (own_keep (w' := y91) HO.out fun q hq => HU91.out.block q (HO.out.lt q hq).2)
      have HBN := Lib.hid (HB.out.trans (HU91.out.mono (by omega)))
      have hsn := HBN.out.size
      have hgaN := (HON.out.lt ga rfl).2
      clear HO HB
      go_upto_region 8 with fail
      clear c12 c13 cab
      obtain ⟨z, rfl⟩ : ∃ z : World, z = y91 := ⟨_, rfl⟩
      go_loopw [8, 33] (fun s8 j wr => ∃ q : Nat, q ≤ 2 ∧ j = .int .i64 q ∧ Hid (wr.ownsRow ga 3 1 (.slice (some ⟨ga, 0, none⟩) len len) len (pv (ab2 len ab k L R q) len)) ∧ Hid (Below ga z wr)) (fun _ j _ => 2 - (intOf j).toNat)
      case atStart => exact ⟨0, by omega, rfl, HON, Lib.hid (Below.refl _ _)⟩
      case round =>
        obtain ⟨q, hq, rfl, HO2, HB2⟩ := hrel
        by_cases hq2 : q < 2
        · have hqi : (q : Int) < 2 := by omega
          obtain ⟨t, ht⟩ : ∃ t, t = in2 L R q := ⟨_, rfl⟩
          have HIX : ∀ W, (Instr.index 62 (.agg #[.int .i64 L, .int .i64 R]) (.int .i64 (q : Int))).run Try.prog W = .ok (.int .i64 t) W := fun W => by
            rw [ht]
            match q, hq2 with
            | 0, _ => simp [Instr.index, go_sem, in2]
            | 1, _ => simp [Instr.index, go_sem, in2]
          have HS2 := Lib.hid (ab2_step len ab k L R q hq2)
          rw [← ht] at HS2
          clear ht
          have hself := ab2_self len ab k L R q
          obtain ⟨abq, habq⟩ : ∃ f, f = ab2 len ab k L R q := ⟨_, rfl⟩
          rw [← habq] at HO2 HS2 hself
          have cak : wr.cell? ⟨ga, k, none⟩ = some (.int .i64 a) := by rw [HO2.out.cellAt k (by omega), pv_at _ _ _ (by omega), hself, HA.out]
          have HSF := Lib.hid hself
          clear habq hself
          by_cases c1 : (k : Int) < t
          · by_cases c2 : t < (len : Int)
            · obtain ⟨tn, htn⟩ : ∃ n : Nat, t = (n : Int) := ⟨t.toNat, by omega⟩
              subst htn
              have ctn : wr.cell? ⟨ga, tn, none⟩ = some (.int .i64 (abq tn)) := by rw [HO2.out.cellAt tn (by omega), pv_at _ _ _ (by omega)]
              have fz := HO2.out.frozenAt
              go_wp2_with fail
              go_roundw
              case rel =>
                refine ⟨q + 1, by omega, by go_num, Lib.hid ?_, Lib.hid (HB2.out.setCell (by show ga ≤ ga; omega) _)⟩
                have hst := (HO2.out.stored tn (.int .i64 (a + 1))).1
                rw [pv_set] at hst
                rw [HS2.out, reach_set len abq k tn (by omega) (by omega), HSF.out, ← HA.out]
                exact hst
              case measure => simp [intOf]; omega
            · have HNO := Lib.hid (reach_no len abq k t (by omega))
              go_wp2_with fail
              go_roundw
              case rel => exact ⟨q + 1, by omega, by go_num, Lib.hid (by rw [HS2.out, HNO.out]; exact HO2.out), HB2⟩
              case measure => simp [intOf]; omega
          · have HNO := Lib.hid (reach_no len abq k t (by omega))
            go_wp2_with fail
            go_roundw
            case rel => exact ⟨q + 1, by omega, by go_num, Lib.hid (by rw [HS2.out, HNO.out]; exact HO2.out), HB2⟩
            case measure => simp [intOf]; omega
        · have hq22 : q = 2 := by omega
          subst hq22
          go_wp2_with fail
          go_roundw
          case rel =>
            refine ⟨k + 1, by omega, by go_num, by rw [HSTEP.out], Lib.hid ?_, Lib.hid (HBN.out.trans HB2.out)⟩
            rw [HSTEP.out]
            show wr.ownsRow ga _ 1 _ len (pv (dround len ab k nd) len)
            have e : dround len ab k nd = ab2 len ab k L R 2 := by unfold dround; rw [← HLL.out, ← HRR.out]; rfl
            rw [e]
            exact HO2.out
          case measure => simp [intOf]; omega
    · have hkm : k = len := by omega
      subst hkm
      have hnl : ¬ (k : Int) < (k : Int) := by omega
      clear hlt' hk
      go_wp2_with fail
      go_ret
      exact ⟨rfl, HU0.out.trans (HB.out.mono hgaw)⟩

end Go.Proofs.Ytoppcnkfgmbpfaa.Tr
