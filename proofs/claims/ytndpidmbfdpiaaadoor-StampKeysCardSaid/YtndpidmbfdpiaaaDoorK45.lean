/- Layer 26 (stamp), the document's Key. -/
import Derived.Test.YtndpidmbfdpiaaaDoorK20
import Derived.Test.YtndpidmbfdpiaaaDoorK44
namespace Go.Proofs.YtndpidmbfdpiaaaDoor.St
open Go Go.RowKit Go.Proofs.YtndpidmbfdpiaaaDoor Go.Proofs.YtndpidmbfdpiaaaDoor.Au Go.Proofs.YtndpidmbfdpiaaaDoor.Re Go.Proofs.YtndpidmbfdpiaaaDoor.Se
set_option linter.unusedVariables false
set_option linter.unusedSimpArgs false

theorem u64_nat (z : Int) : ∃ U : Nat, IntKind.u64.wrap z = (U : Int) ∧ (U : Int) = z % 18446744073709551616 ∧ U < 18446744073709551616 := by
  refine ⟨(z % 18446744073709551616).toNat, ?_, ?_, ?_⟩
  · rw [IntKind.wrap_u64]; omega
  · omega
  · omega
theorem kb_nat {z : Int} {U : Nat} (h : (U : Int) = z % 18446744073709551616) : UInt8.ofNat (U / 256 ^ 0 % 256) = kb z 0 ∧ UInt8.ofNat (U / 256 ^ 1 % 256) = kb z 1 ∧ UInt8.ofNat (U / 256 ^ 2 % 256) = kb z 2 ∧ UInt8.ofNat (U / 256 ^ 3 % 256) = kb z 3 := by
  unfold kb
  refine ⟨?_, ?_, ?_, ?_⟩ <;> (congr 1; simp only [Nat.reducePow, Int.reducePow]; omega)
theorem slice_arr (g o : Nat) (W : World) : (Instr.sliceAt 26 (.pointer (some ⟨g, o, none⟩)) none none none).run Tryd.prog W = .ok (.slice (some ⟨g, o, none⟩) 32 32) W := by kernel_rfl
theorem bsc_range {w : World} {b o : Nat} {l : List UInt8} (h : w.rangeAt b o (vals l)) (hl : l.length = 32) : BsC w (.slice (some ⟨b, o, none⟩) 32 32) l :=
  .inr ⟨⟨b, o, none⟩, 32, by rw [hl], by omega, fun j u hu => by rw [Se.add_at]; exact h j u hu⟩
theorem num_at (l : List UInt8) (n size : Nat) (S : Int) (eS : (size : Int) = S) (hn : n < 18446744073709551616) (hs : size ≤ 8) (v : Value) (w : World) (hb : Bs w v l) (hl : l.length + 8 ≤ 140737488355328) :
    Calls Tryd.prog 28 #[v, .int .u64 n, .int .i64 S] w fun e w' => (∃ v', e = .returned v' ∧ w'.ownsRow w.heap.size 5 1 v' (l ++ Rp.bytesOf n size).length (vals (l ++ Rp.bytesOf n size))) ∧ Below w.heap.size w w' := by
  subst eS
  exact num_any l n size hn hs v w hb hl
theorem own_low {base b n : Nat} {w : World} {v : Value} {e : TypeId} {s : Nat} {xs : List Value} (h : w.ownsRow base e s v n xs) (hb : b ≤ base) : w.ownsRow b e s v n xs := by
  refine ⟨h.1, ?_⟩
  rcases h.2 with hn | ⟨g, cap, cur, h1, h2, h3⟩
  · exact .inl hn
  · exact .inr ⟨g, cap, cur, h1, Nat.le_trans hb h2, h3⟩
theorem info32r {D : Array Value} (h : D.size = 32) : (Tryd.prog.info? 26).map (·.size) = some D.size := by rw [h]; kernel_rfl
theorem bytes_1 {z : Int} {U : Nat} (h : (U : Int) = z % 18446744073709551616) : Rp.bytesOf U 1 = [kb z 0] := by
  rw [← (kb_nat h).1]
  simp [Rp.bytesOf, Rp.byteAt, List.range_succ]
theorem bytes_4 {z : Int} {U : Nat} (h : (U : Int) = z % 18446744073709551616) : Rp.bytesOf U 4 = [kb z 0, kb z 1, kb z 2, kb z 3] := by
  obtain ⟨h0, h1, h2, h3⟩ := kb_nat h
  rw [← h0, ← h1, ← h2, ← h3]
  simp [Rp.bytesOf, Rp.byteAt, List.range_succ]

set_option maxHeartbeats 8000000 in
set_option maxRecDepth 100000 in
theorem rkey_any (kind frame : Int) (v : Value) (ds : List (List UInt8)) (w : World) (hD : Dgs w v ds) (h30 : ds.length ≤ 30) :
    Calls Tryd.prog 11 #[.agg (nums .u32 tbl).toArray, .int .i64 kind, .int .i64 frame, v] w fun e w' => e = .returned (.agg (vals (keyB kind frame ds)).toArray) ∧ Below w.heap.size w w' := by
  obtain ⟨h32, a, n, c, rfl, hn, hm, hd⟩ := hD
  have HN := Lib.hid hn
  have HD := Lib.hid hd
  have H32 := Lib.hid h32
  have hn30 : n ≤ 30 := by omega
  obtain ⟨T, hTb⟩ : ∃ T, T = (nums .u32 tbl).toArray := ⟨_, rfl⟩
  have hTs : T.size = 72 := by rw [hTb]; simp [nums_length, tbl_len]
  rw [← hTb]
  have HTB := Lib.hid hTb
  have hr0 := rows2 w (.cells T 31) (.cells Y32 26)
  have hb0 := Ve.below_n2 w (.cells T 31) (.cells Y32 26)
  obtain ⟨y0, hy0⟩ : ∃ y, (w.alloc (.cells T 31)).alloc (.cells Y32 26) = y := ⟨_, rfl⟩
  obtain ⟨P, hP⟩ : ∃ P, P = w.heap.size := ⟨_, rfl⟩
  rw [hy0] at hr0 hb0
  rw [← hP] at hr0
  have HPW := Lib.hid hP
  have HR0 := Lib.hid hr0
  have HB0 := Lib.hid hb0
  have HY0 := Lib.hid hy0
  have HST := Lib.hid (show (Tryd.prog.info? 31).map (·.size) = some T.size by rw [hTs]; kernel_rfl)
  obtain ⟨U, hU1, hU2, hU3⟩ := u64_nat kind
  obtain ⟨V, hV1, hV2, hV3⟩ := u64_nat frame
  have HBU := Lib.hid (bytes_1 hU2)
  have HBV := Lib.hid (bytes_4 hV2)
  clear hr0 hb0 hy0 hP hTb hTs hn hd h32 hU2 hV2
  go_enter Tryd.func11, Tryd.ntmps11
  go_upto_region 1 with fail
  rw [HY0.out, ← HPW.out]
  have hb87 : Bs (y0.alloc (.cells #[.int .u8 87] 5)) (.slice (some ⟨y0.heap.size, 0, none⟩) 1 1) [87] := .inr ⟨⟨y0.heap.size, 0, none⟩, 1, rfl, fun j u hu => by
    rw [Se.add_at, Nat.zero_add]
    have h := heap_alloc_last y0 (.cells #[.int .u8 87] 5)
    simp only [World.cell?, h]
    rw [show vals [87] = [.int .u8 87] from rfl] at hu
    simpa using hu⟩
  have hn1 := num_at [87] U 1 1 rfl hU3 (by omega) _ _ hb87 (by show 1 + 8 ≤ _; omega)
  have HBA := Lib.hid (Ve.below_n1 y0 (.cells #[.int .u8 87] 5))
  clear hb87
  go_upto_region 2 with (first
    | (go_at_call 28; with_reducible refine hn2.mono ?_; rintro e y2 ⟨⟨v2, rfl, hown2⟩, hb2⟩)
    | (go_at_call 28; with_reducible refine hn1.mono ?_; rintro e y1 ⟨⟨v1, rfl, hown1⟩, hb1⟩; have hn2 := num_at _ V 4 4 rfl hV3 (by omega) v1 y1 (own_bs hown1) (by rw [List.length_append, Rp.bytesOf_length]; simp)))
  rw [HBU.out, HBV.out, show [87] ++ [kb kind 0] ++ [kb frame 0, kb frame 1, kb frame 2, kb frame 3] = pre kind frame from rfl] at hown2
  have hBA2 := HBA.out.trans (hb1.mono HBA.out.size)
  have hBA3 := hBA2.trans (hb2.mono hBA2.size)
  have HB2 := Lib.hid hBA3
  have hown3 := own_low hown2 (b := y0.heap.size) hBA2.size
  obtain ⟨a2, c2, hform⟩ := own_form hown3
  subst hform
  have HO2 := Lib.hid (show y2.ownsRow y0.heap.size 5 1 (.slice a2 6 c2) 6 (vals (pre kind frame ++ (ds.take 0).flatten)) by rw [List.take_zero, List.flatten_nil, List.append_nil]; exact hown3)
  have e6 : (pre kind frame).length = 6 := rfl
  rw [e6]
  clear hown2 hown3 hb1 hb2 hn1 hn2 hown1 hBA2 hBA3 e6 hU1 hV1 hU3 hV3
  go_upto_region 3 with fail
  go_loopw [9, 10] (fun bv v wr => ∃ (i m : Nat) (ba : Option Addr) (bc : Nat), i ≤ n ∧ m = 6 + 32 * i ∧ bv = .slice ba m bc ∧ v = .int .i64 i ∧ Hid (wr.ownsRow y0.heap.size 5 1 (.slice ba m bc) m (vals (pre kind frame ++ (ds.take i).flatten))) ∧ Hid (Below y0.heap.size y0 wr)) (fun _ v _ => n - (intOf v).toNat)
  case atStart => exact ⟨0, 6, a2, c2, by omega, rfl, rfl, rfl, HO2, HB2⟩
  case round =>
    obtain ⟨i, m, ba, bc, hi, hm6, rfl, rfl, HOi, HBi⟩ := hrel
    have HM6 := Lib.hid hm6
    have hmb : m ≤ 1000 := by omega
    clear hm6
    have hsz := HBi.out.size
    by_cases hlt : i < n
    · have hlt' : (i : Int) < n := by omega
      have hds : i < ds.length := by rw [← HN.out]; exact hlt
      obtain ⟨b, off, ha, hbw, hcs⟩ : ∃ b off, a = some ⟨b, off, none⟩ ∧ b < w.heap.size ∧ ∀ j, j < n → w.rangeAt b (off + j * 32) (vals (ds.getD j [])) := by
        rcases HD.out with h | h
        · omega
        · exact h
      subst ha
      have HRG := Lib.hid (range_on (hcs i hlt) (HB0.out.trans (HBi.out.mono HB0.out.size)) hbw)
      have HF := Lib.hid (flat_take hds)
      have hl32 : (ds.getD i []).length = 32 := H32.out _ (by simp only [List.getD, List.getElem?_eq_getElem hds, Option.getD_some]; exact List.getElem_mem hds)
      generalize ds.getD i [] = D at HRG HF hl32
      have HBD := Lib.hid (bsc_range HRG.out hl32)
      have HL := Lib.hid hl32
      have hsl := slice_arr b (off + i * 32)
      clear hcs hl32 hds
      go_wp2_with (refine wpList_append_bsc rfl _ _ rfl y0.heap.size _ m (m + 32) _ D (by rw [HL.out]) rfl HOi.out _ rfl HBD.out (by omega) hsz ?_)
      intro a9 c9 w9 h9 hb9
      have HO9 := Lib.hid (show w9.ownsRow y0.heap.size 5 1 (.slice a9 (m + 32) c9) (m + 32) (vals (pre kind frame ++ (ds.take (i + 1)).flatten)) by rw [HF.out, ← List.append_assoc]; exact h9)
      have HB9 := Lib.hid (HBi.out.trans hb9)
      clear h9 hb9 hsl
      go_wp2_with fail
      go_roundw
      case rel => exact ⟨i + 1, m + 32, a9, c9, by omega, by have := HM6.out; omega, rfl, by go_num, HO9, HB9⟩
      case measure => simp [intOf]; omega
    · have hge : ¬ (i : Int) < n := by omega
      have hi' : i = n := by omega
      have hpl : (pre kind frame).length = 6 := rfl
      have hfl : ds.flatten.length ≤ 32 * n := by
        have h := flat_len H32.out n
        rw [show ds.take n = ds from List.take_of_length_le (by rw [← HN.out]; omega)] at h
        exact h
      have hO := HOi.out
      rw [show ds.take i = ds from List.take_of_length_le (by rw [← HN.out]; omega)] at hO
      have hml : m = (pre kind frame ++ ds.flatten).length := by
        have := hO.1
        rw [vals_length, Nat.mul_one] at this
        exact this.symm
      have hbs : BsC wr (.slice ba m bc) (pre kind frame ++ ds.flatten) := by
        rw [hml] at hO ⊢
        exact own_bsc hO
      have hof := rof_any _ _ wr hbs (by rw [List.length_append, hpl]; omega)
      rw [show nums .u8 (sha (pre kind frame ++ ds.flatten)) = vals (keyB kind frame ds) from sha_vals _, ← HTB.out] at hof
      obtain ⟨D, hD⟩ : ∃ D, D = (vals (keyB kind frame ds)).toArray := ⟨_, rfl⟩
      have hDs : D.size = 32 := by rw [hD]; simp [vals_length, keyB, shaB_len]
      rw [← hD] at hof
      have HDD := Lib.hid hD
      have HSZ := Lib.hid (show (Tryd.prog.info? 26).map (·.size) = some D.size from info32r hDs)
      have HZZ := Lib.hid (show Y32.size = D.size by rw [hDs]; rfl)
      have HOO := Lib.hid (show D.all (·.oneCell') = true by rw [hD]; exact all_oneCell_toArray (vals_one _))
      have HRP := Lib.hid ((HBi.out.block P (lt_heap HR0.out.1)).trans HR0.out.1)
      have HRQ := Lib.hid ((HBi.out.block (P + 1) (lt_heap HR0.out.2)).trans HR0.out.2)
      clear hD hDs hfl hi' hml hbs hO hpl
      go_wp2_with (first
        | (with_reducible refine wpList_load_row rfl 31 (.tmp 4) rfl P rfl 31 T (0, 0) _ HRP.out Tryd.underlying31 rfl HST.out ?_)
        | (go_at_call 24; with_reducible refine hof.mono ?_; rintro e y7 ⟨rfl, hb7⟩; have HR7 := Lib.hid ((hb7.block (P + 1) (lt_heap HRQ.out)).trans HRQ.out))
        | (refine Au.wpList_store_row rfl 26 (.tmp 8) (.tmp 32) rfl y7 Y32 D (P + 1) 26 HR7.out rfl rfl HSZ.out HZZ.out HOO.out ?_))
      have hN2 := setRow_heap y7 (P + 1) _ D _ _ HR7.out
      have hbf := HB0.out.trans (HBi.out.mono HB0.out.size)
      exact bodyPost_ret (v := .agg D) (results_cell_row Tryd.results11 _ _ (P + 1) 26 D (0, 0) _ rfl hN2 Tryd.underlying26 rfl HSZ.out) rfl ⟨by rw [HDD.out], below_setRow (g := P + 1) (hbf.trans (hb7.mono hbf.size)) (by have := HPW.out; omega) D⟩
end Go.Proofs.YtndpidmbfdpiaaaDoor.St
