/- Layer 22: bytes as digits, by the program; the document's example. -/
import Derived.Test.YtjejghfeeonghaaDoorSef
import Derived.Test.YtjejghfeeonghaaDoorShelfH
namespace Go.Proofs.YtjejghfeeonghaaDoor.Se
open Go Go.RowKit Go.Proofs.YtjejghfeeonghaaDoor Go.Proofs.YtjejghfeeonghaaDoor.Au Go.Proofs.YtjejghfeeonghaaDoor.Re
set_option linter.unusedVariables false
set_option linter.unusedSimpArgs false

/-- a half byte's digit -/
def hexd (n : Nat) : UInt8 := if n < 10 then UInt8.ofNat (48 + n) else UInt8.ofNat (87 + n)

def hexL (l : List UInt8) : List UInt8 := l.flatMap fun b => [hexd (b.toNat / 16), hexd (b.toNat % 16)]

theorem hexL_len (l : List UInt8) : (hexL l).length = 2 * l.length := by
  induction l with
  | nil => rfl
  | cons b r ih =>
    show ([hexd _, hexd _] ++ hexL r).length = _
    rw [List.length_append, ih]
    simp
    omega

theorem hexL_take (l : List UInt8) (k : Nat) (b : UInt8) (h : l[k]? = some b) : hexL (l.take (k + 1)) = (hexL (l.take k) ++ [hexd (b.toNat / 16)]) ++ [hexd (b.toNat % 16)] := by
  rw [List.take_add_one, h]
  unfold hexL
  rw [List.flatMap_append]
  simp

abbrev HEX : ByteArray := { data := #[48, 49, 50, 51, 52, 53, 54, 55, 56, 57, 97, 98, 99, 100, 101, 102] }

theorem index_hex : ∀ (n : Nat), n < 16 → ∀ W, (Instr.index 9 (.string { data := #[48, 49, 50, 51, 52, 53, 54, 55, 56, 57, 97, 98, 99, 100, 101, 102] }) (.int .u8 (n : Int))).run Tryd.prog W = .ok (.int .u8 ((hexd n).toNat : Int)) W := by
  intro n hn W
  have h16 : n = 0 ∨ n = 1 ∨ n = 2 ∨ n = 3 ∨ n = 4 ∨ n = 5 ∨ n = 6 ∨ n = 7 ∨ n = 8 ∨ n = 9 ∨ n = 10 ∨ n = 11 ∨ n = 12 ∨ n = 13 ∨ n = 14 ∨ n = 15 := by omega
  rcases h16 with rfl | rfl | rfl | rfl | rfl | rfl | rfl | rfl | rfl | rfl | rfl | rfl | rfl | rfl | rfl | rfl <;> (simp [Instr.index, go_sem, hexd]; rfl)

set_option maxHeartbeats 2000000 in
set_option maxRecDepth 100000 in
theorem check_any (b : Nat) (w : World) (h : w.cell? ⟨b, 0, none⟩ = some (.pointer (some ⟨b, 0, none⟩))) : Calls Tryd.prog 100 #[.pointer (some ⟨b, 0, none⟩)] w fun e' w' => e' = .returned (.tuple #[]) ∧ w = w' := by
  have hjs : (Tryd.prog.info? 139).isSome = true := by kernel_rfl
  obtain ⟨jb, hjb⟩ := Option.isSome_iff_exists.1 hjs
  have hnq : ∀ W, (binOp .neq 137 (.pointer (some ⟨b, 0, none⟩)) (.pointer (some ⟨b, 0, none⟩))).run Tryd.prog W = .ok (.bool false) W := fun W => Lib.run_neq_ptr_same W ⟨b, 0, none⟩ Tryd.underlying137 hjb
  go_enter Tryd.func100, Tryd.ntmps100
  go_wp2
  go_end0
  exact ⟨rfl, rfl⟩

set_option maxHeartbeats 4000000 in
set_option maxRecDepth 100000 in
theorem wbyte_any (B b : Nat) (l : List UInt8) (x : UInt8) (w : World) (hB : B ≤ w.heap.size) (hl : l.length < 1000000) (h : Lib.BuilderAt 139 5 B b (.pointer (some ⟨b, 0, none⟩)) (vals l) w) :
    Calls Tryd.prog 89 #[.pointer (some ⟨b, 0, none⟩), .int .u8 (x.toNat : Int)] w fun e' w' => e' = .returned Value.nilIface ∧ Lib.BuilderAt 139 5 B b (.pointer (some ⟨b, 0, none⟩)) (vals (l ++ [x])) w' ∧ Below B w w' := by
  obtain ⟨i0, hi, hz0, hz1, hz2⟩ := info_parts infoByte
  obtain ⟨hBb, v, hb, hown, hne⟩ := h
  rw [vals_length] at hown
  obtain ⟨a, c, hv⟩ := own_form hown
  subst hv
  obtain ⟨n, hn⟩ : ∃ n, n = l.length := ⟨_, rfl⟩
  rw [← hn] at hown hb hne
  have hnb : n < 1000000 := by omega
  have HN := Lib.hid hn
  clear hn hl
  have c0 := cell_of_row _ _ 0 _ _ _ hb
  have c1 := cell_of_row _ _ 1 _ _ _ hb
  simp at c0 c1
  have hlb := lt_heap hb
  obtain ⟨xi, hxi⟩ : ∃ xi : Int, xi = (x.toNat : Int) := ⟨_, rfl⟩
  rw [← hxi]
  have HX := Lib.hid hxi
  have HOWN := Lib.hid hown
  have HNE := Lib.hid hne
  have HBB := Lib.hid hb
  clear hown hne hxi
  go_enter Tryd.func89, Tryd.ntmps89
  go_wp2_with fail
  refine (check_any b w c0).mono ?_
  rintro e w1 ⟨rfl, rfl⟩
  have HI1 := Lib.hid (HOWN.out.alloc (.cells #[.int .u8 xi] 5))
  have HV := Lib.hid (vals_one1 xi x HX.out w w.heap.size rfl)
  have hfz : w.frozen? ⟨b, 1, none⟩ = false := by simp [World.frozen?, hb]
  clear hb
  go_upto_region 3 with (first | (at_builtin; go_loud (refine wpList_append_own _ rfl _ _ 56 rfl B 5 i0 (.int .u8 0) 1 1 Tryd.underlying56 hi hz0 hz1 hz2 rfl (by decide) _ _ _ rfl HI1.out ⟨w.heap.size, 0, none⟩ 1 1 (vals [x]) rfl rfl HV.out (vals_one _) ?d3 ?d4 ?d5 ?_)))
  case d3 => unfold maxLen; omega
  case d4 => omega
  case d5 => simp; omega
  intro v2 w2 hown2 hgrow2 _
  have hlt : b < (w.alloc (.cells #[.int .u8 xi] 5)).heap.size := by simp; omega
  have hb2 := (hgrow2.block b hlt (fun e => HNE.out e.symm)).trans ((Ve.below_n1 w (.cells #[.int .u8 xi] 5)).block b hlb |>.trans HBB.out)
  have hne2 : v2.ownBlock ≠ some b := fun e => by
    rcases hown2.2 with ⟨h1, _⟩ | ⟨q, cap, cur, hv, _, ho, _⟩
    · subst h1; cases e
    · subst hv
      simp [Value.ownBlock] at e
      subst e
      rw [ho] at hb2
      simp at hb2
  obtain ⟨a9, c9, hv⟩ := own_form hown2
  subst hv
  have hb3 : Below B w w2 := ((Below.refl B w).alloc hB _).grown hgrow2 (by simp; omega) (fun q hq => (HOWN.out.lt q hq).1)
  have hf2 : w2.frozen? ⟨b, 1, none⟩ = false := by simp [World.frozen?, hb2]
  have d1 := cell_of_row _ _ 1 _ _ _ hb2
  simp at d1
  have HB2 := Lib.hid hb2
  have HO2 := Lib.hid hown2
  clear hb2 hown2 hgrow2 HI1 HV HOWN HBB
  go_wp2
  go_ret
  have hN := heap_setCell_same w2 b 1 _ _ (.slice a9 (n + 1) c9) HB2.out
  refine ⟨rfl, ⟨hBb, _, hN, ?_, hne2⟩, hb3.setCell (by show B ≤ b; exact hBb) _⟩
  have hl : (vals (l ++ [x])).length = n + 1 := by rw [vals_length, List.length_append, HN.out]; rfl
  rw [hl, vals_append]
  exact own_heap HO2.out (fun q hq => Below.heap_setCell _ _ _ _ (fun e => hne2 (by rw [hq]; exact congrArg some e)))

set_option maxHeartbeats 4000000 in
set_option maxRecDepth 100000 in
theorem hex_go (ad : Addr) (cap : Nat) (l : List UInt8) (n : Nat) (w : World) (hn : n = l.length) (hl : n ≤ 100000) (hc : ∀ j u, (vals l)[j]? = some u → w.cell? (ad.add j) = some u) :
    Calls Tryd.prog 63 #[.slice (some ad) n cap] w fun e' w' => e' = .returned (.string ⟨(hexL l).toArray⟩) ∧ Below w.heap.size w w' := by
  have HC := Lib.hid hc
  have HN := Lib.hid hn
  clear hc hn
  go_enter Tryd.func63, Tryd.ntmps63
  go_upto_region 2 with fail
  have hr0 := heap_alloc_last w (.cells #[.pointer none, .slice none 0 0] 139)
  have hb0 := Ve.below_n1 w (.cells #[.pointer none, .slice none 0 0] 139)
  obtain ⟨y0, hy0⟩ : ∃ y, w.alloc (.cells #[.pointer none, .slice none 0 0] 139) = y := ⟨_, rfl⟩
  rw [hy0] at hr0 hb0 ⊢
  obtain ⟨b, hb⟩ : ∃ b, b = w.heap.size := ⟨_, rfl⟩
  have hB : w.heap.size ≤ b := by omega
  rw [← hb] at hr0 ⊢
  clear hy0 hb
  obtain ⟨n2, hn2⟩ : ∃ x : Nat, x = 2 * n := ⟨_, rfl⟩
  have hnn : 2 * (n : Int) = (n2 : Int) := by omega
  have hnb : n2 ≤ 200000 := by omega
  clear hn2
  go_wp2_with fail
  refine (ShH.Builder_Grow_fresh w.heap.size b n2 y0 hB hr0 hb0.size (by omega)).mono ?_
  rintro e y1 ⟨rfl, hba, hb1⟩
  have HBA := Lib.hid (show Lib.BuilderAt 139 5 w.heap.size b (.pointer (some ⟨b, 0, none⟩)) (vals (hexL (l.take 0))) y1 from hba)
  have HU := Lib.hid (hb0.trans hb1)
  clear hba hb1 hb0 hr0 hnn
  go_wp2_with fail
  go_loopw [12] (fun i wr => ∃ k : Nat, k ≤ n ∧ i = .int .i64 k ∧ Hid (Lib.BuilderAt 139 5 w.heap.size b (.pointer (some ⟨b, 0, none⟩)) (vals (hexL (l.take k))) wr) ∧ Hid (Below w.heap.size w wr)) (fun i _ => n - (intOf i).toNat)
  case atStart => exact ⟨0, by omega, rfl, HBA, HU⟩
  case round =>
    obtain ⟨k, hk, rfl, HB, HU1⟩ := hrel
    by_cases hlt : k < n
    · have hlt' : (k : Int) < n := by omega
      obtain ⟨x, hx⟩ : ∃ x, l[k]? = some x := ⟨_, List.getElem?_eq_getElem (by have := HN.out; omega)⟩
      obtain ⟨xn, hxn⟩ : ∃ m : Nat, m = x.toNat := ⟨_, rfl⟩
      have hxb : xn < 256 := by rw [hxn]; exact x.toNat_lt
      have hcell : wr.cell? (ad.add k) = some (.int .u8 (xn : Int)) := by
        have h1 := HC.out k (.int .u8 (xn : Int)) (by unfold vals; rw [List.getElem?_map, hx, hxn]; rfl)
        rw [HU1.out.cell (World.block_lt_of_cell? w _ h1)]; exact h1
      obtain ⟨h4, hh4⟩ : ∃ m : Nat, m = xn / 16 := ⟨_, rfl⟩
      obtain ⟨l4, hl4⟩ : ∃ m : Nat, m = xn % 16 := ⟨_, rfl⟩
      have e4 : (xn : Int) / 16 = (h4 : Int) := by omega
      have f4 : bits .and .u8 (xn : Int) 15 = (l4 : Int) := by
        have h := u8_and_nat xn 15 hxb (by omega)
        rw [hl4, show xn % 16 = xn &&& 15 from (Nat.and_two_pow_sub_one_eq_mod xn 4).symm]
        exact h
      have hi1 := fun W => index_hex h4 (by omega) W
      have hi2 := fun W => index_hex l4 (by omega) W
      have HTK := Lib.hid (show hexL (l.take (k + 1)) = (hexL (l.take k) ++ [hexd h4]) ++ [hexd l4] by rw [hexL_take l k x hx, hh4, hl4, hxn])
      have HTL := Lib.hid (show (hexL (l.take k)).length ≤ 200000 by rw [hexL_len, List.length_take]; omega)
      clear hx hxn hh4 hl4
      have hsz := HU1.out.size
      go_wp2_with fail
      refine (wbyte_any w.heap.size b (hexL (l.take k)) (hexd h4) wr hsz (by have := HTL.out; omega) HB.out).mono ?_
      rintro e y2 ⟨rfl, hba2, hb2⟩
      have HB2 := Lib.hid hba2
      have HU2 := Lib.hid (HU1.out.trans hb2)
      clear hba2 hb2 HB
      go_wp2_with fail
      refine (wbyte_any w.heap.size b (hexL (l.take k) ++ [hexd h4]) (hexd l4) y2 HU2.out.size (by have := HTL.out; rw [List.length_append]; simp; omega) HB2.out).mono ?_
      rintro e y3 ⟨rfl, hba3, hb3⟩
      have HB3 := Lib.hid (show Lib.BuilderAt 139 5 w.heap.size b (.pointer (some ⟨b, 0, none⟩)) (vals (hexL (l.take (k + 1)))) y3 by rw [HTK.out]; exact hba3)
      have HU3 := Lib.hid (HU2.out.trans hb3)
      clear hba3 hb3 HB2 hi1 hi2
      go_wp2_with fail
      go_roundw
      case rel => exact ⟨k + 1, by omega, by go_num, HB3, HU3⟩
      case measure => simp [intOf]; omega
    · have hge : ¬ (k : Int) < n := by omega
      have HE := Lib.hid (show l.take k = l from List.take_of_length_le (by have := HN.out; omega))
      have HBF := Lib.hid (show Lib.IsBuilder 139 5 w.heap.size b (Lib.byteCells (hexL l)) wr from .inr (by have h := HB.out; rw [HE.out] at h; exact h))
      go_wp2_with fail
      refine (ShH.Builder_String_any w.heap.size b (hexL l) wr HBF.out HU1.out.size).mono ?_
      rintro e y2 ⟨rfl, hb2⟩
      go_wp2
      go_ret
      exact ⟨rfl, HU1.out.trans hb2⟩

end Go.Proofs.YtjejghfeeonghaaDoor.Se
