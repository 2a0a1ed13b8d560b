/- Layer 23: the document's example is met. -/
import Derived.Test.YtjejghfeeonghaaDre
import Derived.Laws.StructEq
namespace Go.Proofs.Ytjejghfeeonghaa.Dr
open Go Go.RowKit Go.Maps Go.Proofs.Ytjejghfeeonghaa Go.Proofs.Ytjejghfeeonghaa.Au Go.Proofs.Ytjejghfeeonghaa.Re
set_option linter.unusedVariables false
set_option linter.unusedSimpArgs false

def aB : Bk := 97 :: List.replicate 127 0

def bB : Bk := 98 :: List.replicate 127 0

def S0 : Dst := ⟨2, 0, -1, false, List.replicate 2 zB, []⟩

def S1 : Dst := writeS S0 0 aB

def S2 : Dst := writeS S1 1 bB

def S3 : Dst := crashS S2 [1]

theorem fine0 : Fine S0 := by unfold Fine; decide +kernel

theorem fine1 : Fine S1 := by unfold Fine; decide +kernel

theorem e0 : eWrite S0 0 = 0 := by decide +kernel

theorem e1 : eWrite S1 1 = 0 := by decide +kernel

theorem r0 : vRead S3 0 = zB ∧ eAt S3 0 = 0 := by decide +kernel

theorem r1 : vRead S3 1 = bB ∧ eAt S3 1 = 0 := by decide +kernel

theorem infoU8 : (Try.prog.info? 5).map (fun i => (i.zero, i.size, i.bytes)) = some (some (.int .u8 0), 1, 1) := by kernel_rfl

theorem eq_cells (W : World) (d : Nat) (l : Bk) : ∀ is : List Nat, (∀ i ∈ is, i < l.length) → (Op.eqItems (d + 1) 5 1 (vals l).toArray (vals l).toArray is).run Try.prog W = .ok true W
  | [], _ => by simp [Op.eqItems]
  | i :: is, hi => by
    obtain ⟨z, hz⟩ : ∃ z, (vals l)[i]? = some (.int .u8 z) := ⟨((l[i]'(hi i (by simp))).toNat : Int), by unfold vals; rw [List.getElem?_map, List.getElem?_eq_getElem (hi i (by simp))]; rfl⟩
    have ih := eq_cells W d l is (fun j hj => hi j (by simp [hj]))
    have hp := run_part_plain (P := Try.prog) (e := 5) (w := W) (by kernel_rfl) (xs := (vals l).toArray) (off := i) (v := .int .u8 z) (by simpa using hz)
    have he := run_equalIn_int (P := Try.prog) W d 5 .u8 .u8 z z Try.underlying5
    simp [Op.eqItems, Sem.run_bind, hp, he, ih]

theorem eq_blk (l : Bk) (hl : l.length = 128) (W : World) : (Op.equalIn 10000 36 (bv l) (bv l)).run Try.prog W = .ok true W := by
  obtain ⟨i0, hi, hz0, hz1, hz2⟩ := info_parts infoU8
  unfold bv
  rw [run_equalIn_array W 9999 _ _ Try.underlying36 hi, show Try.prog.cellsOf 5 = 1 by kernel_rfl]
  exact eq_cells W 9998 l _ (fun i hi => by rw [hl]; simpa using hi)

theorem load_want {P : Program} {ops : Array Oper} {rest : List Oper} {o : Oper} {a : Act} {w : World} {Q : Exit → Act → World → Prop} (hw : Region.wanted o (yielded ops a.tmps) = true) (ty : TypeId) (x : Operand) (ho : o.op = .load ty x)
    (g : Nat) (hx : a.eval x = .pointer (some ⟨g, 0, none⟩)) (t : TypeId) (cs : Array Value) (fr : Nat × Nat) (d : TypeDesc) (hg : w.heap[g]? = some (.cells cs t fr))
    (hu : P.underlying ty = some d) (hd : (match d with | .struct _ | .array _ _ => true | _ => false) = true) (hi : (P.info? ty).map (·.size) = some cs.size)
    (h : wpList P ops Q rest (a.put o.dst (.agg cs)) w) : wpList P ops Q (o :: rest) a w :=
  Go.BigFrame.wpList_want hw fun _ hK => wp_load_row ty x ho g hx t cs fr d hg hu hd hi (hK _ _ h)

set_option maxHeartbeats 4000000 in
set_option maxRecDepth 100000 in
theorem awake_any (w : World) : Calls Try.prog 7 #[] w fun e w' => e = .returned (.bool true) ∧ Below w.heap.size w w' := by
  have hzv := zeroV
  have hzs := ZB_size
  have hba : ZB.setIfInBounds 0 (.int .u8 97) = (vals aB).toArray := by kernel_rfl
  have hbb : ZB.setIfInBounds 0 (.int .u8 98) = (vals bB).toArray := by kernel_rfl
  go_enter Try.func7, Try.ntmps7
  go_wp2_with fail
  refine (new_any 2 w (by decide) (by decide)).mono ?_
  rintro e y1 ⟨⟨g, b, m, rfl, hg, hb, hm, hd⟩, hb1⟩
  have HD1 := Lib.hid (show DAt y1 g b m S0 from hd)
  have HU1 := Lib.hid hb1
  clear hd hb1
  go_wp2_with fail
  refine (write_any g b m S0 y1 HD1.out fine0 0 aB (by decide +kernel)).mono ?_
  rintro e y2 ⟨rfl, hd2, ha2⟩
  rw [e0]
  have HD2 := Lib.hid (show DAt y2 g b m S1 from hd2)
  have HA2 := Lib.hid ha2
  clear hd2 ha2 HD1
  go_wp2_with fail
  refine (write_any g b m S1 y2 HD2.out fine1 1 bB (by decide +kernel)).mono ?_
  rintro e y3 ⟨rfl, hd3, ha3⟩
  rw [e1]
  have HD3 := Lib.hid (show DAt y3 g b m S2 from hd3)
  have HA3 := Lib.hid (HA2.out.trans ha3)
  clear hd3 ha3 HD2 HA2 hba
  obtain ⟨RB, hRB⟩ : ∃ R, R = (vals bB).toArray := ⟨_, rfl⟩
  rw [← hRB] at hbb
  have HRB := Lib.hid hRB
  clear hRB
  have hb4 := Ve.below_n1 y3 (.cells #[.int .i64 1] 3)
  have hr4 := heap_alloc_last y3 (.cells #[.int .i64 1] 3)
  go_wp2_with fail
  obtain ⟨y4, hy4⟩ : ∃ y, y3.alloc (.cells #[.int .i64 1] 3) = y := ⟨_, rfl⟩
  rw [hy4] at hb4 hr4 ⊢
  have hl3 := HD3.out.lt
  have HD4 := Lib.hid (HD3.out.on hb4)
  have HA4 := Lib.hid (HA3.out.trans (Aw.of hb4))
  have HKS := Lib.hid (show KS y4 (Off g b m) (some ⟨y3.heap.size, 0, none⟩) [1] from ⟨by simp [Lit.wf, IntKind.min, IntKind.max, IntKind.bits, IntKind.signed], .inr ⟨y3.heap.size, 0, rfl, lt_heap hr4, ⟨by omega, by omega, by omega⟩, fun j hj => by
    have : j = 0 := by simp at hj; exact hj
    subst this
    simp [World.cell?, hr4]⟩⟩)
  clear hb4 hr4 hy4 hl3 HD3 HA3
  refine (crash_any g b m S2 y4 HD4.out (some ⟨y3.heap.size, 0, none⟩) 1 1 [1] rfl (by decide) HKS.out).mono ?_
  rintro e y5 ⟨rfl, hd5, ha5⟩
  have HD5 := Lib.hid (show DAt y5 g b m S3 from hd5)
  have HA5 := Lib.hid (HA4.out.trans ha5)
  clear hd5 ha5 HD4 HA4 HKS
  go_wp2_with fail
  refine (read_any g b m S3 y5 HD5.out 0).mono ?_
  rintro e y6 ⟨rfl, hb6⟩
  rw [r0.1, r0.2, show bv zB = .agg ZB from rfl]
  have HD6 := Lib.hid (HD5.out.on hb6)
  have HA6 := Lib.hid (HA5.out.trans (Aw.of hb6))
  have HI := Lib.hid (infoTB ZB_size)
  have HO := Lib.hid ZB_one
  have HAL := Lib.hid (heap_alloc_last y6 (.cells ZB 36))
  clear hb6 HD5 HA5
  go_upto_region 8 with (refine Au.wpList_store_row rfl 36 (.tmp 3) (.tmp 29) rfl (y6.alloc (.cells ZB 36)) ZB ZB y6.heap.size 36 HAL.out rfl rfl HI.out rfl HO.out ?_)
  have hN7 := setRow_heap _ (y6.heap.size) _ ZB _ _ HAL.out
  have hbn := Ve.below_n1 y6 (.cells ZB 36)
  have HUx := below_setRow (g := y6.heap.size) hbn (Nat.le_refl _) ZB
  obtain ⟨y7, hy7⟩ : ∃ y, (y6.alloc (.cells ZB 36)).setRow y6.heap.size ZB = y := ⟨_, rfl⟩
  obtain ⟨q, hq⟩ : ∃ q, q = y6.heap.size := ⟨_, rfl⟩
  rw [hy7] at hN7 HUx ⊢
  have HD7 := Lib.hid (HD6.out.on HUx)
  have HA7 := Lib.hid (HA6.out.trans (Aw.of HUx))
  rw [← hq] at hN7 ⊢
  have HQ7 := Lib.hid hN7
  clear hy7 hq hN7 hbn HUx HAL HD6 HA6
  go_wp2_with fail
  refine (read_any g b m S3 y7 HD7.out 1).mono ?_
  rintro e y8 ⟨rfl, hb8⟩
  rw [r1.1, r1.2, show bv bB = .agg RB by rw [HRB.out]; rfl]
  have HA8 := Lib.hid (HA7.out.trans (Aw.of hb8))
  have HQ8 := Lib.hid ((hb8.block q (lt_heap HQ7.out)).trans HQ7.out)
  have hRs : RB.size = 128 := by rw [HRB.out]; decide +kernel
  have HIB := Lib.hid (infoTB hRs)
  have HZB := Lib.hid (show ZB.size = RB.size by rw [hRs]; exact ZB_size)
  have HOB := Lib.hid (show RB.all (·.oneCell') = true by rw [HRB.out]; exact all_oneCell_toArray (vals_one _))
  have HAL := Lib.hid (heap_alloc_last y8 (.cells ZB 36))
  clear hb8 HD7 HA7 HQ7 hRs
  go_upto_region 9 with (refine Au.wpList_store_row rfl 36 (.tmp 5) (.tmp 34) rfl (y8.alloc (.cells ZB 36)) ZB RB y8.heap.size 36 HAL.out rfl rfl HIB.out HZB.out HOB.out ?_)
  have hN9 := setRow_heap _ (y8.heap.size) _ RB _ _ HAL.out
  have hbn := Ve.below_n1 y8 (.cells ZB 36)
  have HUx := below_setRow (g := y8.heap.size) hbn (Nat.le_refl _) RB
  obtain ⟨y9, hy9⟩ : ∃ y, (y8.alloc (.cells ZB 36)).setRow y8.heap.size RB = y := ⟨_, rfl⟩
  obtain ⟨p, hp⟩ : ∃ q, q = y8.heap.size := ⟨_, rfl⟩
  rw [hy9] at hN9 HUx ⊢
  have HQ9 := Lib.hid ((HUx.block q (lt_heap HQ8.out)).trans HQ8.out)
  have HA9 := Lib.hid (HA8.out.trans (Aw.of HUx))
  rw [← hp] at hN9 ⊢
  have HP9 := Lib.hid hN9
  clear hy9 hp hN9 hbn HUx HAL HA8 HQ8
  have hq1 : ∀ W, (Op.equalIn 10000 36 (.agg ZB) (.agg ZB)).run Try.prog W = .ok true W := fun W => eq_blk zB zB_len W
  have hq2 : ∀ W, (Op.equalIn 10000 36 (.agg RB) (.agg RB)).run Try.prog W = .ok true W := fun W => by rw [HRB.out]; exact eq_blk bB (by decide +kernel) W
  go_wp2_with (first | (with_reducible refine wpList_load_row rfl 36 (.tmp 3) rfl q rfl 36 ZB (0, 0) _ HQ9.out Try.underlying36 rfl HI.out ?_) | (refine load_want (by rfl) 36 (.tmp 5) rfl p rfl 36 RB (0, 0) _ HP9.out Try.underlying36 rfl HIB.out ?_))
  go_ret
  have hs := HU1.out.size
  exact ⟨rfl, HU1.out.trans (HA9.out.below (fun k hk => ⟨by omega, by omega, by omega⟩) hs)⟩

end Go.Proofs.Ytjejghfeeonghaa.Dr
