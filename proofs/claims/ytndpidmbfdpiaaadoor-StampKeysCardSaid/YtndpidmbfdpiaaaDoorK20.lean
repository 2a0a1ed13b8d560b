/- Layer 26 (stamp): digests as bytes; lists of digests; the program's Key. -/
import Derived.Test.YtndpidmbfdpiaaaDoorK17
import Derived.Test.YtndpidmbfdpiaaaDoorK19
namespace Go.Proofs.YtndpidmbfdpiaaaDoor.St
open Go Go.RowKit Go.Proofs.YtndpidmbfdpiaaaDoor Go.Proofs.YtndpidmbfdpiaaaDoor.Au Go.Proofs.YtndpidmbfdpiaaaDoor.Re Go.Proofs.YtndpidmbfdpiaaaDoor.Se
set_option linter.unusedVariables false
set_option linter.unusedSimpArgs false

/-- a sum, as bytes -/
def shaB (l : List UInt8) : List UInt8 := (sha l).map fun z => UInt8.ofNat z.toNat
theorem sha_bd (l : List UInt8) : ∀ z ∈ sha l, 0 ≤ z ∧ z < 256 := by
  intro z hz
  unfold sha sumOf dig digs at hz
  obtain ⟨i, hi, rfl⟩ := List.mem_map.1 hz
  rw [List.mem_range] at hi
  rw [if_pos hi]
  unfold digB
  omega
theorem sha_len (l : List UInt8) : (sha l).length = 32 := by simp [sha, sumOf, dig, digs_len]
theorem shaB_len (l : List UInt8) : (shaB l).length = 32 := by simp [shaB, sha_len]
theorem nums_bytes (l : List Int) (h : ∀ z ∈ l, 0 ≤ z ∧ z < 256) : nums .u8 l = vals (l.map fun z => UInt8.ofNat z.toNat) := by
  unfold nums vals
  rw [List.map_map]
  refine List.map_congr_left fun z hz => ?_
  have := h z hz
  simp only [Function.comp_apply]
  congr 1
  rw [UInt8.toNat_ofNat']
  omega
theorem sha_vals (l : List UInt8) : nums .u8 (sha l) = vals (shaB l) := nums_bytes _ (sha_bd l)

/-- the byte number i of a number, the lowest first -/
def kb (z : Int) (i : Nat) : UInt8 := UInt8.ofNat (z / 256 ^ i % 256).toNat
theorem kb_val (z : Int) (i : Nat) : ((kb z i).toNat : Int) = z / 256 ^ i % 256 := by
  unfold kb
  rw [UInt8.toNat_ofNat']
  have h : 0 ≤ z / 256 ^ i % 256 ∧ z / 256 ^ i % 256 < 256 := ⟨Int.emod_nonneg _ (by decide), Int.emod_lt_of_pos _ (by decide)⟩
  omega
def pre (kind frame : Int) : List UInt8 := [87, kb kind 0, kb frame 0, kb frame 1, kb frame 2, kb frame 3]
/-- the key of a work, by all that it is made of -/
def keyB (kind frame : Int) (ds : List (List UInt8)) : List UInt8 := shaB (pre kind frame ++ ds.flatten)

/-- a list of digests lies -/
def Dgs (w : World) (v : Value) (ds : List (List UInt8)) : Prop :=
  (∀ d ∈ ds, d.length = 32) ∧ ∃ a n c, v = .slice a n c ∧ n = ds.length ∧ n ≤ 1000000 ∧ (n = 0 ∨ ∃ b off, a = some ⟨b, off, none⟩ ∧ b < w.heap.size ∧ ∀ j, j < n → w.rangeAt b (off + j * 32) (vals (ds.getD j [])))
theorem range_on {w w' : World} {b o : Nat} {cs : List Value} (h : w.rangeAt b o cs) (hb : Below w.heap.size w w') (hlt : b < w.heap.size) : w'.rangeAt b o cs := fun j v hj => (hb.cell (p := ⟨b, o + j, none⟩) hlt).trans (h j v hj)
theorem Dgs.on {w w' : World} {v : Value} {ds : List (List UInt8)} (h : Dgs w v ds) (hb : Below w.heap.size w w') : Dgs w' v ds := by
  obtain ⟨h0, a, n, c, hv, hn, hm, h⟩ := h
  refine ⟨h0, a, n, c, hv, hn, hm, ?_⟩
  rcases h with h | ⟨b, off, ha, hlt, hc⟩
  · exact .inl h
  · exact .inr ⟨b, off, ha, Nat.lt_of_lt_of_le hlt hb.size, fun j hj => range_on (hc j hj) hb hlt⟩

theorem slice_dig (g : Nat) (W : World) : (Instr.sliceAt 33 (.pointer (some ⟨g, 0, none⟩)) none none none).run Tryd.prog W = .ok (.slice (some ⟨g, 0, none⟩) 32 32) W := by kernel_rfl

theorem info32 {D : Array Value} (h : D.size = 32) : (Tryd.prog.info? 33).map (·.size) = some D.size := by rw [h]; kernel_rfl
theorem flat_take {ds : List (List UInt8)} {k : Nat} (h : k < ds.length) : (ds.take (k + 1)).flatten = (ds.take k).flatten ++ ds.getD k [] := by
  rw [List.take_succ_eq_append_getElem h, List.flatten_append]
  simp [List.getD, h]
theorem flat_len {ds : List (List UInt8)} (h : ∀ d ∈ ds, d.length = 32) (k : Nat) : (ds.take k).flatten.length ≤ 32 * k := by
  induction k with
  | zero => simp
  | succ k ih =>
    by_cases hk : k < ds.length
    · rw [flat_take hk, List.length_append]
      have : (ds.getD k []).length = 32 := h _ (by simp only [List.getD, List.getElem?_eq_getElem hk, Option.getD_some]; exact List.getElem_mem hk)
      omega
    · rw [List.take_of_length_le (by omega)]
      rw [List.take_of_length_le (by omega)] at ih
      omega

/-- a block that holds bytes, as bytes to be fed -/
theorem bsc_block {w : World} {g : Nat} {l : List UInt8} {T : TypeId} (h : w.heap[g]? = some (.cells (vals l).toArray T (0, 0))) : BsC w (.slice (some ⟨g, 0, none⟩) l.length l.length) l :=
  .inr ⟨_, _, rfl, Nat.le_refl _, fun j u hu => by
    rw [Se.add_at, Nat.zero_add]
    simp [World.cell?, h, hu]⟩

theorem pre_vals (kind frame : Int) : #[.int .u8 87, .int .u8 (kind % 256), .int .u8 (frame % 256), .int .u8 (frame / 256 % 256), .int .u8 (frame / 65536 % 256), .int .u8 (frame / 16777216 % 256)] = (vals (pre kind frame)).toArray := by
  unfold vals pre
  simp only [List.map_cons, List.map_nil, kb_val]
  simp
theorem parts_one {w : World} {g b c n : Nat} {x : Value} {l : List UInt8} (hb : b ≠ g) (hc : w.cell? ⟨b, 0, none⟩ = some x) (hx : BsC w x l) (hne : ∀ ad n c, x = .slice (some ad) n c → ad.block ≠ g) (hn : n = 1) : Parts w g (.slice (some ⟨b, 0, none⟩) n c) [l] := by
  subst hn
  refine .inr ⟨b, 0, c, rfl, hb, fun j l' hj => ?_⟩
  match j, hj with
  | 0, hj =>
    simp at hj
    subst hj
    exact ⟨x, hc, hx, fun ad n c e _ => hne ad n c e⟩
  | j + 1, hj => simp at hj

set_option maxHeartbeats 8000000 in
set_option maxRecDepth 100000 in
theorem key_any (kind frame : Int) (v : Value) (ds : List (List UInt8)) (w : World) (hT : Tabs w) (hD : Dgs w v ds) :
    Calls Tryd.prog 10 #[.int .i64 kind, .int .i64 frame, v] w fun e w' => e = .returned (.agg (vals (keyB kind frame ds)).toArray) ∧ Below w.heap.size w w' := by
  obtain ⟨h32, a, n, c, rfl, hn, hm, hd⟩ := hD
  have HT := Lib.hid hT
  have HN := Lib.hid hn
  have HD := Lib.hid hd
  have H32 := Lib.hid h32
  have HG0 := Lib.hid (show 1 < w.heap.size from World.block_lt_of_cell? _ _ (hT.s 0 (by decide)))
  have HG2 := Lib.hid (show 2 < w.heap.size from World.block_lt_of_cell? _ _ (hT.k 0 (by decide)))
  clear hT hn hd h32
  have hr0 := heap_alloc_last w (.cells Y32 33)
  have hb0 := Ve.below_n1 w (.cells Y32 33)
  obtain ⟨y0, hy0⟩ : ∃ y, w.alloc (.cells Y32 33) = y := ⟨_, rfl⟩
  obtain ⟨r, hr⟩ : ∃ r, r = w.heap.size := ⟨_, rfl⟩
  rw [hy0] at hr0 hb0
  rw [← hr] at hr0
  have HRW := Lib.hid hr
  have HR0 := Lib.hid hr0
  have HB0 := Lib.hid hb0
  have HY0 := Lib.hid hy0
  clear hr0 hb0 hr hy0
  go_enter Tryd.func10, Tryd.ntmps10
  go_upto_region 1 with fail
  rw [HY0.out, ← HRW.out]
  go_upto_region 2 with (go_at_call 25; refine (new_any y0 (HT.out.on HB0.out)).mono ?_; rintro e y1 ⟨⟨g, rfl, hg, hp⟩, hb1⟩)
  have HP1 := Lib.hid hp
  have HGG := Lib.hid hg
  have HR1 := Lib.hid ((hb1.block _ (lt_heap HR0.out)).trans HR0.out)
  have HB1 := Lib.hid (HB0.out.trans (hb1.mono HB0.out.size))
  have HGR := Lib.hid (show r ≠ g by have := lt_heap HR0.out; omega)
  have HGW := Lib.hid (show w.heap.size ≤ g by have := HB0.out.size; omega)
  clear hp hg hb1 HR0
  have hr2 := rows2 y1 (.cells (vals (pre kind frame)).toArray 5) (.cells #[.slice (some ⟨y1.heap.size, 0, none⟩) 6 6] 22)
  have hb2 := Ve.below_n2 y1 (.cells (vals (pre kind frame)).toArray 5) (.cells #[.slice (some ⟨y1.heap.size, 0, none⟩) 6 6] 22)
  obtain ⟨y2, hy2⟩ : ∃ y, (y1.alloc (.cells (vals (pre kind frame)).toArray 5)).alloc (.cells #[.slice (some ⟨y1.heap.size, 0, none⟩) 6 6] 22) = y := ⟨_, rfl⟩
  rw [hy2] at hr2 hb2
  have hgy := lt_heap HP1.out.row
  have hpart := parts_one (w := y2) (g := g) (c := 1) (n := 1) (b := y1.heap.size + 1) (x := .slice (some ⟨y1.heap.size, 0, none⟩) 6 6) (l := pre kind frame) (by omega) (by have h := cell_of_row _ _ 0 _ _ _ hr2.2; simpa using h) (bsc_block (l := pre kind frame) hr2.1) (fun ad n c e => by cases e; show y1.heap.size ≠ g; omega) rfl
  have HB2 := Lib.hid (HB1.out.trans (hb2.mono HB1.out.size))
  have hQ0 : 1 ≠ g := by have := HG0.out; have := HGW.out; omega
  have hQ2 : 2 ≠ g := by have := HG2.out; have := HGW.out; omega
  have hwr := write_any g press0 _ [pre kind frame] y2 hpart (by show 1 ≤ 1000000; omega) (HP1.out.on hb2) (HT.out.on HB2.out) hQ0 hQ2 (by show 0 + 6 < _; omega)
  have HQ0 := Lib.hid hQ0
  have HQ2 := Lib.hid hQ2
  have HR2 := Lib.hid ((hb2.block r (lt_heap HR1.out)).trans HR1.out)
  have HPV := Lib.hid (pre_vals kind frame)
  clear hr2 hb2 hpart hQ0 hQ2
  go_upto_region 3 with (go_at_call 26; rw [HPV.out, hy2]; refine hwr.mono ?_; rintro e y3 ⟨rfl, hp3, ha3⟩)
  have HP3 := Lib.hid (show PrAt y3 g (feeds press0 (pre kind frame ++ (ds.take 0).flatten)) by
    rw [List.take_zero, List.flatten_nil, List.append_nil]
    simpa using hp3)
  have HR3 := Lib.hid ((ha3.block r HGR.out (lt_heap HR2.out)).trans HR2.out)
  have HB3 := Lib.hid (HB2.out.trans (ha3.below (B := w.heap.size) (fun k hk => by have := HGW.out; omega) HB2.out.size))
  clear hwr hy2 hp3 ha3 HP1 HR1 HB1 HR2 HB2 hgy
  go_upto_region 4 with fail
  go_loopw [30] (fun v wr => ∃ i : Nat, i ≤ n ∧ v = .int .i64 i ∧ Hid (PrAt wr g (feeds press0 (pre kind frame ++ (ds.take i).flatten))) ∧ Hid (wr.heap[r]? = some (.cells Y32 33 (0, 0))) ∧ Hid (Below w.heap.size w wr)) (fun v _ => n - (intOf v).toNat)
  case atStart => exact ⟨0, by omega, rfl, HP3, HR3, HB3⟩
  case round =>
    obtain ⟨i, hi, rfl, HPi, HRi, HBi⟩ := hrel
    by_cases hlt : i < n
    · have hlt' : (i : Int) < n := by omega
      have hds : i < ds.length := by rw [← HN.out]; exact hlt
      obtain ⟨b, off, ha, hbw, hcs⟩ : ∃ b off, a = some ⟨b, off, none⟩ ∧ b < w.heap.size ∧ ∀ j, j < n → w.rangeAt b (off + j * 32) (vals (ds.getD j [])) := by
        rcases HD.out with h | h
        · omega
        · exact h
      subst ha
      have HRG := Lib.hid (range_on (hcs i hlt) HBi.out hbw)
      have HF := Lib.hid (flat_take hds)
      have hl32 : (ds.getD i []).length = 32 := H32.out _ (by simp only [List.getD, List.getElem?_eq_getElem hds, Option.getD_some]; exact List.getElem_mem hds)
      generalize ds.getD i [] = D at HRG HF hl32
      have HL := Lib.hid hl32
      have HSZ := Lib.hid (show (Tryd.prog.info? 33).map (·.size) = some (vals D).length by rw [vals_length, HL.out]; kernel_rfl)
      have HSZ2 := Lib.hid (show (Tryd.prog.info? 33).map (·.size) = some (vals D).toArray.size by simpa using HSZ.out)
      have HZZ := Lib.hid (show Y32.size = (vals D).toArray.size by rw [show Y32.size = 32 from rfl]; simp [vals_length, HL.out])
      have HOO := Lib.hid (show (vals D).toArray.all (·.oneCell') = true from all_oneCell_toArray (vals_one _))
      have HAL := Lib.hid (heap_alloc_last wr (.cells Y32 33))
      clear hcs hl32 hds
      go_upto_region 6 with (first | (with_reducible refine wpList_load_mid rfl 33 (.tmp 32) rfl b (off + i * 32) rfl (vals D) _ HRG.out Tryd.underlying33 rfl HSZ.out ?_) | (refine Au.wpList_store_row rfl 33 (.tmp 9) (.tmp 33) rfl (wr.alloc (.cells Y32 33)) Y32 (vals D).toArray wr.heap.size 33 HAL.out rfl rfl HSZ2.out HZZ.out HOO.out ?_))
      have hq0 := setRow_heap (wr.alloc (.cells Y32 33)) wr.heap.size _ (vals D).toArray _ _ HAL.out
      have hbq := below_setRow (g := wr.heap.size) (Ve.below_n1 wr (.cells Y32 33)) (Nat.le_refl _) (vals D).toArray
      obtain ⟨y4, hy4⟩ : ∃ y, (wr.alloc (.cells Y32 33)).setRow wr.heap.size (vals D).toArray = y := ⟨_, rfl⟩
      obtain ⟨q, hq⟩ : ∃ q, q = wr.heap.size := ⟨_, rfl⟩
      rw [hy4] at hq0 hbq ⊢
      rw [← hq] at hq0 ⊢
      have hgw := lt_heap HPi.out.row
      have hgq : q ≠ g := by omega
      have HP4 := Lib.hid (HPi.out.on hbq)
      have HR4 := Lib.hid ((hbq.block r (lt_heap HRi.out)).trans HRi.out)
      have HB4 := Lib.hid (HBi.out.trans (hbq.mono HBi.out.size))
      have hqlt := lt_heap hq0
      clear hy4 hbq hq hgw HAL
      have hr5 := heap_alloc_last y4 (.cells #[.slice (some ⟨q, 0, none⟩) 32 32] 22)
      have hb5 := Ve.below_n1 y4 (.cells #[.slice (some ⟨q, 0, none⟩) 32 32] 22)
      have hgy4 := lt_heap HP4.out.row
      have hbD : BsC (y4.alloc (.cells #[.slice (some ⟨q, 0, none⟩) 32 32] 22)) (.slice (some ⟨q, 0, none⟩) 32 32) D := by
        have h := bsc_block (l := D) ((hb5.block q hqlt).trans hq0)
        rw [HL.out] at h
        exact h
      have hpart := parts_one (w := y4.alloc (.cells #[.slice (some ⟨q, 0, none⟩) 32 32] 22)) (g := g) (c := 1) (n := 1) (b := y4.heap.size) (x := .slice (some ⟨q, 0, none⟩) 32 32) (l := D) (by omega) (by simp) hbD (fun ad n c e => by cases e; exact hgq) rfl
      have hfl := flat_len H32.out i
      have hwr := write_any g (feeds press0 (pre kind frame ++ (ds.take i).flatten)) _ [D] _ hpart (by show 1 ≤ 1000000; omega) (HP4.out.on hb5) (HT.out.on (HB4.out.trans (hb5.mono HB4.out.size))) HQ0.out HQ2.out (by
        rw [feeds_n, List.length_append]
        have h1 : (pre kind frame).length = 6 := rfl
        have h2 : press0.n = 0 := rfl
        have h3 : [D].flatten.length = 32 := by simp [HL.out]
        rw [h1, h2, h3]
        omega)
      have HR5 := Lib.hid ((hb5.block r (lt_heap HR4.out)).trans HR4.out)
      have HB5 := Lib.hid (HB4.out.trans (hb5.mono HB4.out.size))
      have hsl := slice_dig q
      clear hr5 hb5 hbD hpart hfl hq0 hqlt hgy4 hgq
      go_wp2_with (go_at_call 26; refine hwr.mono ?_; rintro e y6 ⟨rfl, hp6, ha6⟩)
      go_roundw
      case rel =>
        refine ⟨i + 1, by omega, by go_num, Lib.hid ?_, Lib.hid ((ha6.block r HGR.out (lt_heap HR5.out)).trans HR5.out), Lib.hid (HB5.out.trans (ha6.below (B := w.heap.size) (fun k hk => by have := HGW.out; omega) HB5.out.size))⟩
        rw [HF.out, ← List.append_assoc, feeds_app]
        simpa using hp6
      case measure => simp [intOf]; omega
    · have hge : ¬ (i : Int) < n := by omega
      have hi' : i = n := by omega
      have HPn := Lib.hid (show PrAt wr g (feeds press0 (pre kind frame ++ ds.flatten)) by
        have h := HPi.out
        rw [show ds.take i = ds from List.take_of_length_le (by rw [← HN.out]; omega)] at h
        exact h)
      have hfl : ds.flatten.length ≤ 32 * n := by
        have h := flat_len H32.out n
        rw [show ds.take n = ds from List.take_of_length_le (by rw [← HN.out]; omega)] at h
        exact h
      have hsum := sum_any g _ wr HPn.out (HT.out.on HBi.out) (by
        rw [feeds_n, List.length_append]
        have h1 : (pre kind frame).length = 6 := rfl
        have h2 : press0.n = 0 := rfl
        rw [h1, h2]
        omega) (by have := HG0.out; have := HBi.out.size; omega) (by have := HG2.out; have := HBi.out.size; omega)
      rw [show nums .u8 (sumOf (feeds press0 (pre kind frame ++ ds.flatten))) = vals (keyB kind frame ds) from sha_vals _] at hsum
      obtain ⟨D, hD⟩ : ∃ D, D = (vals (keyB kind frame ds)).toArray := ⟨_, rfl⟩
      have hDs : D.size = 32 := by rw [hD]; simp [vals_length, keyB, shaB_len]
      rw [← hD] at hsum
      have HDD := Lib.hid hD
      have HSZ := Lib.hid (show (Tryd.prog.info? 33).map (·.size) = some D.size from info32 hDs)
      have HZZ := Lib.hid (show Y32.size = D.size by rw [hDs]; rfl)
      have HOO := Lib.hid (show D.all (·.oneCell') = true by rw [hD]; exact all_oneCell_toArray (vals_one _))
      have hrW : w.heap.size ≤ r := by have := HRW.out; omega
      have HRr := Lib.hid hrW
      clear hD hDs hfl hi' hrW
      go_upto_region 8 with fail
      go_wp2_with (first | (go_at_call 27; refine hsum.mono ?_; rintro e y7 ⟨rfl, hb7⟩; have HR7 := Lib.hid ((hb7.block r (lt_heap HRi.out)).trans HRi.out)) | (refine Au.wpList_store_row rfl 33 (.tmp 6) (.tmp 40) rfl y7 Y32 D r 33 HR7.out rfl rfl HSZ.out HZZ.out HOO.out ?_))
      have hN2 := setRow_heap y7 r _ D _ _ HR7.out
      exact bodyPost_ret (v := .agg D) (results_cell_row Tryd.results10 _ _ r 33 D (0, 0) _ rfl hN2 Tryd.underlying33 rfl HSZ.out) rfl ⟨by rw [HDD.out], below_setRow (g := r) (HBi.out.trans (hb7.mono HBi.out.size)) HRr.out D⟩
end Go.Proofs.YtndpidmbfdpiaaaDoor.St
