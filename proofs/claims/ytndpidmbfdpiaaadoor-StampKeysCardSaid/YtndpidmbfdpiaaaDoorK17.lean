/- Layer 22: what follows all bytes; Write, Sum, Of by the program. -/
import Derived.Test.YtndpidmbfdpiaaaDoorK14
import Derived.Test.YtndpidmbfdpiaaaDoorK16
namespace Go.Proofs.YtndpidmbfdpiaaaDoor.Se
open Go Go.RowKit Go.Proofs.YtndpidmbfdpiaaaDoor Go.Proofs.YtndpidmbfdpiaaaDoor.Au Go.Proofs.YtndpidmbfdpiaaaDoor.Re
set_option linter.unusedVariables false
set_option linter.unusedSimpArgs false

/-- how many zeros follow -/
def zeros (n : Nat) : Nat := (119 - n % 64) % 64

def be8 (x m : Nat) : List UInt8 := (List.range m).map fun i => UInt8.ofNat (x / 2 ^ (8 * (7 - i)) % 256)

/-- what follows n bytes -/
def pad (n : Nat) : List UInt8 := (128 :: List.replicate (zeros n) 0) ++ be8 (8 * n) 8

theorem be8_succ (x m : Nat) : be8 x (m + 1) = be8 x m ++ [UInt8.ofNat (x / 2 ^ (8 * (7 - m)) % 256)] := by
  unfold be8
  rw [List.range_succ, List.map_append]
  rfl

theorem rep_snoc (j : Nat) : (128 :: List.replicate j (0 : UInt8)) ++ [0] = 128 :: List.replicate (j + 1) 0 := by
  rw [List.cons_append, List.replicate_succ']

theorem own_bsc {base : Nat} {w : World} {v : Value} {l : List UInt8} (h : w.ownsRow base 5 1 v l.length (vals l)) : BsC w v l := by
  rcases h.2 with ⟨rfl, h0⟩ | ⟨q, cap, cur, rfl, _, _, hc, -⟩
  · exact .inl ⟨rfl, List.eq_nil_of_length_eq_zero h0⟩
  · exact .inr ⟨_, _, rfl, hc, h.cells (g := q) rfl⟩

set_option maxHeartbeats 4000000 in
set_option maxRecDepth 100000 in
theorem end_any (g : Nat) (s : Pst) (n0 : Nat) (w : World) (hP : PrAt w g s) (hn : s.n = n0) (hb : n0 < 1099511627776) : Calls Tryd.prog 40 #[.pointer (some ⟨g, 0, none⟩)] w fun e w' => (∃ v', e = .returned v' ∧ w'.ownsRow w.heap.size 5 1 v' (pad n0).length (vals (pad n0))) ∧ Below w.heap.size w w' := by
  obtain ⟨i0, hi, hz0, hz1, hz2⟩ := info_parts infoByte
  have HP := Lib.hid hP
  have HN := Lib.hid hn
  have HO := Lib.hid (World.ownsRow_lit (base := w.heap.size) (size := 1) w #[.int .u8 128] 1 (e := 5) (Nat.le_refl _) (by unfold maxLen; omega) rfl)
  have hB1 := Lib.hid (below_n1 w (.cells #[.int .u8 128] 5))
  clear hP hn
  go_enter Tryd.func40, Tryd.ntmps40
  go_upto_region 2 with fail
  go_loopw [3] (fun v wr => ∃ (t : Nat) (a : Option Addr) (c : Nat), 1 ≤ t ∧ t ≤ zeros n0 + 1 ∧ v = .slice a t c ∧ Hid (wr.ownsRow w.heap.size 5 1 (.slice a t c) t (vals (128 :: List.replicate (t - 1) 0))) ∧ Hid (Below w.heap.size w wr)) (fun v _ => 200 - lenV v)
  case atStart => exact ⟨1, _, _, by omega, by omega, rfl, HO, hB1⟩
  case round =>
    obtain ⟨t, a, c, ht1, ht2, rfl, HI, HB⟩ := hrel
    have hbk := HB.out
    have hsz := hbk.size
    have hz64 : zeros n0 < 64 := Nat.mod_lt _ (by decide)
    have htb : (t : Int) ≤ 65 := by omega
    have p72 := many_of (HP.out.on HB.out).row HP.out.len
    rw [HN.out] at p72
    by_cases hlt : t < zeros n0 + 1
    · have hne : (((n0 : Int) % 64 + (t : Int) + 8) % 64 != 0) = true := by
        have h1 : ((n0 : Int) % 64 + (t : Int) + 8) % 64 ≠ 0 := by unfold zeros at hlt; omega
        simp [h1]
      have HI1 := Lib.hid (HI.out.alloc (.cells #[.int .u8 0] 5))
      have HV := Lib.hid (vals_one1 0 0 rfl wr wr.heap.size rfl)
      go_wp2_with (first | (at_builtin; refine wpList_append_own _ rfl _ _ 22 rfl w.heap.size 5 i0 (.int .u8 0) 1 1 Tryd.underlying22 hi hz0 hz1 hz2 rfl (by decide) _ _ _ rfl HI1.out ⟨wr.heap.size, 0, none⟩ 1 1 (vals [0]) rfl rfl HV.out (vals_one _) ?d3 ?d4 ?d5 ?_))
      case d3 => unfold maxLen; omega
      case d4 => omega
      case d5 => simp; omega
      intro v2 w2 hown2 hgrow2 _
      have hb2 : Below w.heap.size w w2 := (hbk.alloc hsz _).grown hgrow2 (by simp; omega) (fun q hq => (HI.out.lt q hq).1)
      have HI2 := Lib.hid (show w2.ownsRow w.heap.size 5 1 v2 (t + 1) (vals (128 :: List.replicate (t + 1 - 1) 0)) by
        rw [show t + 1 - 1 = (t - 1) + 1 by omega, ← rep_snoc, vals_append]; exact hown2)
      obtain ⟨a9, c9, hv⟩ := own_form HI2.out
      subst hv
      clear hown2 hgrow2 HI HI1 HV hne p72
      go_wp2_with fail
      go_roundw
      case rel => exact ⟨t + 1, a9, c9, by omega, by omega, rfl, HI2, Lib.hid hb2⟩
      case measure => show 200 - (t + 1) < 200 - t; omega
    · have hne : (((n0 : Int) % 64 + (t : Int) + 8) % 64 != 0) = false := by
        have h1 : ((n0 : Int) % 64 + (t : Int) + 8) % 64 = 0 := by unfold zeros at hlt ht2; omega
        simp [h1]
      obtain ⟨bt, hbt⟩ : ∃ b : Nat, b = 8 * n0 := ⟨_, rfl⟩
      have hbi : 8 * (n0 : Int) = (bt : Int) := by omega
      have hbb : bt < 8796093022208 := by omega
      have HBT := Lib.hid hbt
      clear hbt
      have HTL := Lib.hid (show t = zeros n0 + 1 by omega)
      have HL0 := Lib.hid (show vals (128 :: List.replicate (t - 1) 0) = vals ((128 :: List.replicate (zeros n0) 0) ++ be8 bt 0) by rw [HTL.out]; simp [be8])
      go_upto_region 5 with fail
      clear hne p72
      go_wp2_with fail
      go_loopw [3, 27] (fun v i wr => ∃ (m u : Nat) (a : Option Addr) (c : Nat), m ≤ 8 ∧ i = .int .i64 m ∧ u = t + m ∧ v = .slice a u c ∧ Hid (wr.ownsRow w.heap.size 5 1 (.slice a u c) u (vals ((128 :: List.replicate (zeros n0) 0) ++ be8 bt m))) ∧ Hid (Below w.heap.size w wr)) (fun _ i _ => 8 - (intOf i).toNat)
      case atStart => exact ⟨0, t, a, c, by omega, rfl, by omega, rfl, by rw [← HL0.out]; exact HI, HB⟩
      case round =>
        obtain ⟨m, u, a, c, hm, rfl, hu, rfl, HI, HB⟩ := hrel
        have hbk := HB.out
        have hsz := hbk.size
        have hub : u ≤ 80 := by omega
        have HU_ := Lib.hid hu
        clear hu
        by_cases hlm : m < 8
        · have hlm' : (m : Int) < 8 := by omega
          obtain ⟨s8, hs8⟩ : ∃ x : Nat, x = 8 * (7 - m) := ⟨_, rfl⟩
          have hsh : (8 * (7 - (m : Int))) = (s8 : Int) := by omega
          have HS8 := Lib.hid hs8
          clear hs8
          obtain ⟨by_, hby⟩ : ∃ x : UInt8, x = UInt8.ofNat (bt / 2 ^ s8 % 256) := ⟨_, rfl⟩
          obtain ⟨yb, hyb⟩ : ∃ x : Int, x = (bt : Int) / 2 ^ s8 % 256 := ⟨_, rfl⟩
          have hyv : yb = (by_.toNat : Int) := by
            rw [hyb, hby, UInt8.toNat_ofNat_of_lt' (by simp [UInt8.size]; omega)]
            simp
          have HY := Lib.hid hyb.symm
          have HI1 := Lib.hid (HI.out.alloc (.cells #[.int .u8 yb] 5))
          have HV := Lib.hid (vals_one1 yb by_ hyv wr wr.heap.size rfl)
          have HBE := Lib.hid (show be8 bt (m + 1) = be8 bt m ++ [by_] by rw [be8_succ, hby, HS8.out])
          clear hby hyv hyb
          have hyr := HY.out
          go_wp2_with (first | (at_builtin; refine wpList_append_own _ rfl _ _ 22 rfl w.heap.size 5 i0 (.int .u8 0) 1 1 Tryd.underlying22 hi hz0 hz1 hz2 rfl (by decide) _ _ _ rfl HI1.out ⟨wr.heap.size, 0, none⟩ 1 1 (vals [by_]) rfl rfl HV.out (vals_one _) ?d3 ?d4 ?d5 ?_))
          case d3 => unfold maxLen; omega
          case d4 => omega
          case d5 => simp; omega
          intro v2 w2 hown2 hgrow2 _
          have hb2 : Below w.heap.size w w2 := (hbk.alloc hsz _).grown hgrow2 (by simp; omega) (fun q hq => (HI.out.lt q hq).1)
          have HI2 := Lib.hid (show w2.ownsRow w.heap.size 5 1 v2 (u + 1) (vals ((128 :: List.replicate (zeros n0) 0) ++ be8 bt (m + 1))) by
            rw [HBE.out, ← List.append_assoc, vals_append]; exact hown2)
          obtain ⟨a9, c9, hv⟩ := own_form HI2.out
          subst hv
          clear hown2 hgrow2 HI HI1 HV hyr
          go_wp2_with fail
          go_roundw
          case rel => exact ⟨m + 1, u + 1, a9, c9, by omega, by go_num, by have := HU_.out; omega, rfl, HI2, Lib.hid hb2⟩
          case measure => simp [intOf]; omega
        · have hge : ¬ (m : Int) < 8 := by omega
          have HM8 := Lib.hid (show m = 8 by omega)
          go_wp2
          go_ret
          have hp : (128 :: List.replicate (zeros n0) 0) ++ be8 bt m = pad n0 := by rw [HM8.out, HBT.out]; rfl
          have hpl : u = (pad n0).length := by
            rw [HU_.out, HM8.out, HTL.out]; simp [pad, be8]
          exact ⟨⟨_, rfl, by rw [← hpl, ← hp]; exact HI.out⟩, hbk⟩

set_option maxHeartbeats 2000000 in
set_option maxRecDepth 100000 in
theorem take_nil (g : Nat) (s : Pst) (w : World) (hP : PrAt w g s) (hn : s.n < 1099511627776) : Calls Tryd.prog 39 #[.pointer (some ⟨g, 0, none⟩), .slice none 0 0] w fun e' w' => e' = .returned (.tuple #[]) ∧ PrAt w' g (feeds s []) ∧ Aw (fun b => b ≠ g) w w' := by
  have HP := Lib.hid hP
  obtain ⟨n0, hn0⟩ : ∃ n0, s.n = n0 := ⟨_, rfl⟩
  have hnb : n0 < 1099511627776 := by omega
  have p72 := many_of hP.row hP.len
  rw [hn0] at p72
  have hfz := row_free hP.row 72
  have HN0 := Lib.hid hn0
  clear hP hn hn0
  go_enter Tryd.func39, Tryd.ntmps39
  go_upto_region 2 with fail
  have hR0 := heap_setCell_same w g 72 _ _ (.int .u64 (n0 : Int)) HP.out.row
  rw [PC_set_many _ _ _ _ HP.out.len, ← HN0.out] at hR0
  have hA0 := (Aw.refl (fun b => b ≠ g) w).set (b := g) (by simp) 72 (.int .u64 (n0 : Int))
  rw [HN0.out] at hR0
  obtain ⟨y0, hy0⟩ : ∃ y, w.setCell ⟨g, 72, none⟩ (.int .u64 (n0 : Int)) = y := ⟨_, rfl⟩
  rw [hy0] at hR0 hA0 ⊢
  have HR0 := Lib.hid hR0
  have HA0 := Lib.hid hA0
  clear hR0 hA0 hy0 p72 hfz
  go_wp2
  refine wp_loop_rounds 1 ?_
  rw [rounds_succ]
  go_wp2_with fail
  go_end0
  exact ⟨rfl, ⟨by show _ = some (Obj.cells (PC s.v s.blk s.n).toArray _ _); rw [HN0.out]; exact HR0.out, HP.out.len⟩, HA0.out⟩

theorem take_any (g : Nat) (s : Pst) (v : Value) (l : List UInt8) (w : World) (hP : PrAt w g s) (hl : BsC w v l) (hne : ∀ ad n c, v = .slice (some ad) n c → l ≠ [] → ad.block ≠ g) (hT : Tabs w) (hg0 : 1 ≠ g) (hg2 : 2 ≠ g) (hn : s.n + l.length < 1099511627776) :
    Calls Tryd.prog 39 #[.pointer (some ⟨g, 0, none⟩), v] w fun e' w' => e' = .returned (.tuple #[]) ∧ PrAt w' g (feeds s l) ∧ Aw (fun b => b ≠ g) w w' := by
  rcases hl with ⟨rfl, rfl⟩ | ⟨ad, cap, rfl, hc, h⟩
  · exact take_nil g s w hP (by simpa using hn)
  · exact take_go g s ad cap l l.length w hP rfl hc h (hne _ _ _ rfl) hT hg0 hg2 hn

/-- some parts, apart from block g -/
def Parts (w : World) (g : Nat) (v : Value) (ls : List (List UInt8)) : Prop :=
  (v = .slice none 0 0 ∧ ls = []) ∨ ∃ b o c, v = .slice (some ⟨b, o, none⟩) ls.length c ∧ b ≠ g ∧ ∀ j l, ls[j]? = some l → ∃ x, w.cell? ⟨b, o + j, none⟩ = some x ∧ BsC w x l ∧ ∀ ad n c, x = .slice (some ad) n c → l ≠ [] → ad.block ≠ g

theorem BsC.aw {S : Nat → Prop} {w w' : World} {v : Value} {l : List UInt8} (h : BsC w v l) (ha : Aw S w w') (hk : ∀ ad n c, v = .slice (some ad) n c → l ≠ [] → S ad.block) : BsC w' v l := by
  rcases h with h | ⟨ad, cap, rfl, hc, h⟩
  · exact .inl h
  · exact .inr ⟨ad, cap, rfl, hc, fun j u hu => by
      have := h j u hu
      have k1 := hk _ _ _ rfl (fun e => by subst e; simp [vals] at hu)
      rw [ha.cell (by rw [ad_block]; exact k1) (World.block_lt_of_cell? w _ this)]; exact this⟩

theorem Tabs.aw {S : Nat → Prop} {w w' : World} (h : Tabs w) (ha : Aw S w w') (hs : S 1) (hk : S 2) : Tabs w' :=
  h.keep (ha.block _ hs (World.block_lt_of_cell? _ _ (h.s 0 (by decide)))) (ha.block _ hk (World.block_lt_of_cell? _ _ (h.k 0 (by decide))))

set_option maxHeartbeats 4000000 in
set_option maxRecDepth 100000 in
theorem write_go (g : Nat) (s : Pst) (b o c : Nat) (ls : List (List UInt8)) (ln : Nat) (w : World) (hln : ln = ls.length) (hlb : ln ≤ 1000000) (hP : PrAt w g s) (hb : b ≠ g) (hc : ∀ j l, ls[j]? = some l → ∃ x, w.cell? ⟨b, o + j, none⟩ = some x ∧ BsC w x l ∧ ∀ ad n c, x = .slice (some ad) n c → l ≠ [] → ad.block ≠ g) (hT : Tabs w) (hg0 : 1 ≠ g) (hg2 : 2 ≠ g) (hn : s.n + ls.flatten.length < 1099511627776) :
    Calls Tryd.prog 26 #[.pointer (some ⟨g, 0, none⟩), .slice (some ⟨b, o, none⟩) ln c] w fun e' w' => e' = .returned (.tuple #[]) ∧ PrAt w' g (feeds s ls.flatten) ∧ Aw (fun b => b ≠ g) w w' := by
  have HP := Lib.hid hP
  have HC := Lib.hid hc
  have HT := Lib.hid hT
  have HB := Lib.hid hb
  have HG0 := Lib.hid hg0
  have HG2 := Lib.hid hg2
  have HLN := Lib.hid hln
  have HNN := Lib.hid hn
  clear hP hc hT hb hg0 hg2 hln hn
  go_enter Tryd.func26, Tryd.ntmps26
  go_wp2_with fail
  go_loopw [10] (fun i wr => ∃ k : Nat, k ≤ ln ∧ i = .int .i64 k ∧ Hid (PrAt wr g (feeds s (ls.take k).flatten)) ∧ Hid (Aw (fun b => b ≠ g) w wr)) (fun i _ => ln - (intOf i).toNat)
  case atStart => exact ⟨0, by omega, rfl, HP, Lib.hid (Aw.refl _ _)⟩
  case round =>
    obtain ⟨k, hk, rfl, HP1, HA⟩ := hrel
    by_cases hlt : k < ln
    · have hlt' : (k : Int) < ln := by omega
      obtain ⟨l, hl⟩ : ∃ l, ls[k]? = some l := ⟨_, List.getElem?_eq_getElem (by have := HLN.out; omega)⟩
      obtain ⟨x, hx, hbs, hap⟩ := HC.out k l hl
      have hx1 : wr.cell? ⟨b, o + k, none⟩ = some x := by
        rw [HA.out.cell (p := ⟨b, o + k, none⟩) HB.out (World.block_lt_of_cell? w _ hx)]; exact hx
      have HBS := Lib.hid (hbs.aw HA.out hap)
      have HAP := Lib.hid hap
      have HTK := Lib.hid (show (ls.take (k + 1)).flatten = (ls.take k).flatten ++ l by
        rw [List.take_add_one, hl, List.flatten_append]; simp)
      have HLE := Lib.hid (show (ls.take (k + 1)).flatten.length ≤ ls.flatten.length by
        rw [← List.take_append_drop (k + 1) ls, List.flatten_append, List.take_append_drop, List.length_append]; omega)
      clear hl hx hbs hap
      go_wp2_with fail
      refine (take_any g _ x l _ HP1.out HBS.out HAP.out (HT.out.aw HA.out HG0.out HG2.out) HG0.out HG2.out (by
        have h1 := HNN.out; have h2 := HLE.out; rw [HTK.out, List.length_append] at h2; rw [feeds_n]; omega)).mono ?_
      rintro e w1 ⟨rfl, hp1, ha1⟩
      have HP2 := Lib.hid (show PrAt w1 g (feeds s (ls.take (k + 1)).flatten) by rw [HTK.out, feeds_app]; exact hp1)
      have HA2 := Lib.hid (HA.out.trans ha1)
      clear hp1 ha1 HP1 HA hx1
      go_wp2_with fail
      go_roundw
      case rel => exact ⟨k + 1, by omega, by go_num, HP2, HA2⟩
      case measure => simp [intOf]; omega
    · have hge : ¬ (k : Int) < ln := by omega
      have HE := Lib.hid (show ls.take k = ls from List.take_of_length_le (by have := HLN.out; omega))
      go_wp2
      go_end0
      have hp := HP1.out
      rw [HE.out] at hp
      exact ⟨rfl, hp, HA.out⟩

set_option maxHeartbeats 2000000 in
set_option maxRecDepth 100000 in
theorem write_none (g : Nat) (w : World) : Calls Tryd.prog 26 #[.pointer (some ⟨g, 0, none⟩), .slice none 0 0] w fun e' w' => e' = .returned (.tuple #[]) ∧ w = w' := by
  go_enter Tryd.func26, Tryd.ntmps26
  go_wp2_with fail
  refine wp_loop_rounds 1 ?_
  rw [rounds_succ]
  go_wp2_with fail
  go_end0
  exact ⟨rfl, rfl⟩

theorem write_nil (v : Value) (w : World) : Calls Tryd.prog 26 #[.pointer none, v] w fun e' w' => e' = .returned (.tuple #[]) ∧ w = w' := by
  go_enter Tryd.func26, Tryd.ntmps26
  go_wp2
  exact bodyPost_ret (results_none rfl _ _ _) rfl ⟨rfl, rfl⟩

theorem write_any (g : Nat) (s : Pst) (v : Value) (ls : List (List UInt8)) (w : World) (hv : Parts w g v ls) (hlb : ls.length ≤ 1000000) (hP : PrAt w g s) (hT : Tabs w) (hg0 : 1 ≠ g) (hg2 : 2 ≠ g) (hn : s.n + ls.flatten.length < 1099511627776) :
    Calls Tryd.prog 26 #[.pointer (some ⟨g, 0, none⟩), v] w fun e' w' => e' = .returned (.tuple #[]) ∧ PrAt w' g (feeds s ls.flatten) ∧ Aw (fun b => b ≠ g) w w' := by
  rcases hv with ⟨rfl, rfl⟩ | ⟨b, o, c, rfl, hb, hc⟩
  · exact (write_none g w).mono fun e w' h => ⟨h.1, by rw [← h.2]; exact hP, by rw [← h.2]; exact Aw.refl _ _⟩
  · exact write_go g s b o c ls ls.length w rfl hlb hP hb hc hT hg0 hg2 hn

/-- the sum of what a press took -/
def sumOf (s : Pst) : List Int := dig (feeds s (pad s.n)).v

abbrev Y73 : Array Value := #[.int .u32 0, .int .u32 0, .int .u32 0, .int .u32 0, .int .u32 0, .int .u32 0, .int .u32 0, .int .u32 0, .int .u8 0, .int .u8 0, .int .u8 0, .int .u8 0, .int .u8 0, .int .u8 0, .int .u8 0, .int .u8 0, .int .u8 0, .int .u8 0, .int .u8 0, .int .u8 0, .int .u8 0, .int .u8 0, .int .u8 0, .int .u8 0, .int .u8 0, .int .u8 0, .int .u8 0, .int .u8 0, .int .u8 0, .int .u8 0, .int .u8 0, .int .u8 0, .int .u8 0, .int .u8 0, .int .u8 0, .int .u8 0, .int .u8 0, .int .u8 0, .int .u8 0, .int .u8 0, .int .u8 0, .int .u8 0, .int .u8 0, .int .u8 0, .int .u8 0, .int .u8 0, .int .u8 0, .int .u8 0, .int .u8 0, .int .u8 0, .int .u8 0, .int .u8 0, .int .u8 0, .int .u8 0, .int .u8 0, .int .u8 0, .int .u8 0, .int .u8 0, .int .u8 0, .int .u8 0, .int .u8 0, .int .u8 0, .int .u8 0, .int .u8 0, .int .u8 0, .int .u8 0, .int .u8 0, .int .u8 0, .int .u8 0, .int .u8 0, .int .u8 0, .int .u8 0, .int .u64 0]

set_option maxHeartbeats 4000000 in
set_option maxRecDepth 100000 in
theorem sum_any (g : Nat) (s : Pst) (w : World) (hP : PrAt w g s) (hT : Tabs w) (hn : s.n < 549755813888) (hg0 : 1 < w.heap.size) (hg2 : 2 < w.heap.size) :
    Calls Tryd.prog 27 #[.pointer (some ⟨g, 0, none⟩)] w fun e' w' => e' = .returned (.agg (nums .u8 (sumOf s)).toArray) ∧ Below w.heap.size w w' := by
  have HP := Lib.hid hP
  have HT := Lib.hid hT
  have HNN := Lib.hid hn
  have HG0 := Lib.hid hg0
  have HG2 := Lib.hid hg2
  clear hP hT hn hg0 hg2
  have hzY : ∀ w : World, (zeroValue 87).run Tryd.prog w = .ok (.agg Y73) w := fun w => by kernel_rfl
  go_enter Tryd.func27, Tryd.ntmps27
  go_upto_region 3 with fail
  have hr0 := heap_alloc_last w (.cells Y32 33)
  have hb0 := Ve.below_n1 w (.cells Y32 33)
  obtain ⟨y0, hy0⟩ : ∃ y, w.alloc (.cells Y32 33) = y := ⟨_, rfl⟩
  have hs0 : y0.heap.size = w.heap.size + 1 := by rw [← hy0]; simp
  rw [hy0] at hr0 hb0 ⊢
  obtain ⟨r, hr⟩ : ∃ r, r = w.heap.size := ⟨_, rfl⟩
  rw [← hr] at hr0 ⊢
  obtain ⟨R, hR⟩ : ∃ R, R = (PC s.v s.blk s.n).toArray := ⟨_, rfl⟩
  have hRs : R.size = 73 := by rw [hR]; simp only [List.size_toArray]; exact PC_len _ _ _ HP.out.len
  have hrow := (hb0.block _ (lt_heap HP.out.row)).trans HP.out.row
  rw [← hR] at hrow
  have HROW := Lib.hid hrow
  have HRE := Lib.hid hR
  have HSZ := Lib.hid (show (Tryd.prog.info? 87).map (·.size) = some R.size by rw [hRs]; kernel_rfl)
  have HZZ := Lib.hid (show Y73.size = R.size by rw [hRs]; rfl)
  have HOO := Lib.hid (show R.all (·.oneCell') = true by rw [hR]; exact all_oneCell_toArray (PC_one _ _ _))
  have HAL := Lib.hid (heap_alloc_last y0 (.cells Y73 87))
  have HB0 := Lib.hid hb0
  have HR0 := Lib.hid hr0
  have hrw : w.heap.size ≤ r := by omega
  have HS0 := Lib.hid (show r < y0.heap.size by omega)
  clear hb0 hrow hR hRs hr0 hs0 hy0 hr
  go_upto_region 4 with (first | (with_reducible refine wpList_load_row rfl 87 (.tmp 8) rfl g rfl 87 R (0, 0) _ HROW.out Tryd.underlying87 rfl HSZ.out ?_) | (refine Au.wpList_store_row rfl 87 (.tmp 3) (.tmp 9) rfl (y0.alloc (.cells Y73 87)) Y73 R y0.heap.size 87 HAL.out rfl rfl HSZ.out HZZ.out HOO.out ?_))
  have hN := setRow_heap _ (y0.heap.size) _ R _ _ HAL.out
  have hbn := Ve.below_n1 y0 (.cells Y73 87)
  have hO : ∀ kk, kk < y0.heap.size → ((y0.alloc (.cells Y73 87)).setRow y0.heap.size R).heap[kk]? = y0.heap[kk]? := fun kk hk => (setRow_other _ _ _ _ (by omega)).trans (hbn.block _ hk)
  have HUx := below_setRow (g := y0.heap.size) (HB0.out.trans (hbn.mono HB0.out.size)) HB0.out.size R
  obtain ⟨y1, hy1⟩ : ∃ y, (y0.alloc (.cells Y73 87)).setRow y0.heap.size R = y := ⟨_, rfl⟩
  have hsz1 : y0.heap.size < y1.heap.size := by rw [← hy1]; simp [World.setRow]
  obtain ⟨q, hq⟩ : ∃ q, q = y0.heap.size := ⟨_, rfl⟩
  have hr1 := (hO _ HS0.out).trans HR0.out
  have hrq : r < q := by rw [hq]; exact HS0.out
  rw [hy1] at hN HUx hr1 ⊢
  rw [← hq] at hN hsz1 ⊢
  have hwq : w.heap.size ≤ q := by rw [hq]; exact HB0.out.size
  clear hy1 hq hO hbn HROW HSZ HZZ HOO HAL HB0 HR0 HS0
  rw [HRE.out] at hN
  have HQ := Lib.hid (show PrAt y1 q s from ⟨hN, HP.out.len⟩)
  have HU1 := Lib.hid HUx
  have HR1 := Lib.hid hr1
  have HTB := Lib.hid (HT.out.on HU1.out)
  have HQ0 := Lib.hid (show 1 ≠ q by have := HG0.out; omega)
  have HQ2 := Lib.hid (show 2 ≠ q by have := HG2.out; omega)
  clear hN HUx hr1
  go_wp2_with fail
  refine (end_any q s s.n y1 HQ.out rfl (by have := HNN.out; omega)).mono ?_
  rintro e y2 ⟨⟨vp, rfl, hown⟩, hb2⟩
  have HBS := Lib.hid (own_bsc hown)
  have HNE := Lib.hid (show ∀ ad n c, vp = .slice (some ad) n c → pad s.n ≠ [] → ad.block ≠ q from fun ad n c e _ => by
    have := hown.lt ad.block (by rw [e]; rfl); omega)
  have HQ1 := Lib.hid (HQ.out.on hb2)
  have HT2 := Lib.hid (HTB.out.on hb2)
  have HR2 := Lib.hid ((hb2.block _ (lt_heap HR1.out)).trans HR1.out)
  have HU2 := Lib.hid (HU1.out.trans (hb2.mono HU1.out.size))
  have HPL := Lib.hid (show (pad s.n).length < 200 by simp [pad, be8]; have : zeros s.n < 64 := Nat.mod_lt _ (by decide); omega)
  clear hown hb2 HQ HTB HR1 HU1
  go_wp2_with fail
  refine (take_any q s vp (pad s.n) y2 HQ1.out HBS.out HNE.out HT2.out HQ0.out HQ2.out (by have := HNN.out; have := HPL.out; omega)).mono ?_
  rintro e y3 ⟨rfl, hp3, ha3⟩
  have HR3 := Lib.hid ((ha3.block r (by omega) (lt_heap HR2.out)).trans HR2.out)
  have HU3 := Lib.hid (HU2.out.trans (ha3.below (B := w.heap.size) (fun k hk => by omega) HU2.out.size))
  have HW := Lib.hid (words_of hp3.row)
  have HSW := Lib.hid (show (Tryd.prog.info? 84).map (·.size) = some (nums .u32 (feeds s (pad s.n)).v.l).length by rw [nums_length]; kernel_rfl)
  clear hp3 ha3 HR2 HU2 HT2 HBS HNE HQ1
  go_wp2_with (with_reducible refine wpList_load_mid rfl 84 (.tmp 12) rfl q 0 rfl (nums .u32 (feeds s (pad s.n)).v.l) _ HW.out Tryd.underlying84 rfl HSW.out ?_)
  refine (digest_any (feeds s (pad s.n)).v _).mono ?_
  rintro e y4 ⟨rfl, hb4⟩
  obtain ⟨D, hD⟩ : ∃ D, D = (nums .u8 (dig (feeds s (pad s.n)).v)).toArray := ⟨_, rfl⟩
  have hDs : D.size = 32 := by rw [hD]; simp [nums_length, dig, digs_len]
  rw [← hD]
  have HD := Lib.hid hD
  have HSZ := Lib.hid (show (Tryd.prog.info? 33).map (·.size) = some D.size by rw [hDs]; kernel_rfl)
  have HZZ := Lib.hid (show Y32.size = D.size by rw [hDs]; rfl)
  have HOO := Lib.hid (show D.all (·.oneCell') = true by rw [hD]; exact all_oneCell_toArray (nums_one _ _))
  have HR4 := Lib.hid ((hb4.block r (lt_heap HR3.out)).trans HR3.out)
  have HU4 := Lib.hid (HU3.out.trans (hb4.mono HU3.out.size))
  clear hD hDs hb4 HW HSW HR3 HU3
  go_wp2_with (refine Au.wpList_store_row rfl 33 (.tmp 2) (.tmp 14) rfl y4 Y32 D r 33 HR4.out rfl rfl HSZ.out HZZ.out HOO.out ?_)
  have hN2 := setRow_heap y4 r _ D _ _ HR4.out
  exact bodyPost_ret (v := .agg D) (results_cell_row Tryd.results27 _ _ r 33 D (0, 0) _ rfl hN2 Tryd.underlying33 rfl HSZ.out) rfl ⟨by rw [HD.out]; rfl, below_setRow (g := r) HU4.out (by omega) D⟩

/-- the sum of bytes -/
def sha (l : List UInt8) : List Int := sumOf (feeds press0 l)

set_option maxHeartbeats 4000000 in
set_option maxRecDepth 100000 in
theorem of_any (v : Value) (ls : List (List UInt8)) (w : World) (hv : ∀ w' g, Below w.heap.size w w' → w.heap.size ≤ g → Parts w' g v ls) (hlb : ls.length ≤ 1000000) (hT : Tabs w) (hn : ls.flatten.length < 549755813888) :
    Calls Tryd.prog 23 #[v] w fun e' w' => e' = .returned (.agg (nums .u8 (sha ls.flatten)).toArray) ∧ Below w.heap.size w w' := by
  have HV := Lib.hid hv
  have HT := Lib.hid hT
  have HNN := Lib.hid hn
  have HLB := Lib.hid hlb
  have HG0 := Lib.hid (show 1 < w.heap.size from World.block_lt_of_cell? _ _ (hT.s 0 (by decide)))
  have HG2 := Lib.hid (show 2 < w.heap.size from World.block_lt_of_cell? _ _ (hT.k 0 (by decide)))
  clear hv hT hn hlb
  go_enter Tryd.func23, Tryd.ntmps23
  go_upto_region 1 with fail
  have hr0 := heap_alloc_last w (.cells Y32 33)
  have hb0 := Ve.below_n1 w (.cells Y32 33)
  obtain ⟨y0, hy0⟩ : ∃ y, w.alloc (.cells Y32 33) = y := ⟨_, rfl⟩
  have hs0 : w.heap.size < y0.heap.size := by rw [← hy0]; simp
  rw [hy0] at hr0 hb0 ⊢
  obtain ⟨r, hr⟩ : ∃ r, r = w.heap.size := ⟨_, rfl⟩
  rw [← hr] at hr0 ⊢
  have hrw : w.heap.size ≤ r := by omega
  have HRL := Lib.hid (show r < y0.heap.size by omega)
  have HR0 := Lib.hid hr0
  have HU0 := Lib.hid hb0
  clear hy0 hr hr0 hb0 hs0
  go_wp2_with fail
  refine (new_any y0 (HT.out.on HU0.out)).mono ?_
  rintro e y1 ⟨⟨g, rfl, hg, hp⟩, hb1⟩
  have HP1 := Lib.hid hp
  have HG := Lib.hid hg
  have HR1 := Lib.hid ((hb1.block _ (lt_heap HR0.out)).trans HR0.out)
  have HU1 := Lib.hid (HU0.out.trans (hb1.mono HU0.out.size))
  have HGR := Lib.hid (show r ≠ g by have := HRL.out; omega)
  have HGW := Lib.hid (show w.heap.size ≤ g by have := HU0.out.size; omega)
  have HP0 := Lib.hid (HV.out y1 g HU1.out HGW.out)
  have HQ0 := Lib.hid (show 1 ≠ g by have := HG0.out; have := HGW.out; omega)
  have HQ2 := Lib.hid (show 2 ≠ g by have := HG2.out; have := HGW.out; omega)
  clear hp hg hb1 HR0
  go_wp2_with fail
  refine (write_any g press0 v ls y1 HP0.out HLB.out HP1.out (HT.out.on HU1.out) HQ0.out HQ2.out (by have := HNN.out; show 0 + _ < _; omega)).mono ?_
  rintro e y2 ⟨rfl, hp2, ha2⟩
  have HP2 := Lib.hid hp2
  have HR2 := Lib.hid ((ha2.block r HGR.out (lt_heap HR1.out)).trans HR1.out)
  have HU2 := Lib.hid (HU1.out.trans (ha2.below (B := w.heap.size) (fun k hk => by have := HGW.out; omega) HU1.out.size))
  clear hp2 ha2 HR1 HU1 HP1 HP0
  go_wp2_with fail
  refine (sum_any g (feeds press0 ls.flatten) y2 HP2.out (HT.out.on HU2.out) (by rw [feeds_n]; have := HNN.out; show 0 + _ < _; omega) (by have := HG0.out; have := HU2.out.size; omega) (by have := HG2.out; have := HU2.out.size; omega)).mono ?_
  rintro e y3 ⟨rfl, hb3⟩
  obtain ⟨D, hD⟩ : ∃ D, D = (nums .u8 (sumOf (feeds press0 ls.flatten))).toArray := ⟨_, rfl⟩
  have hDs : D.size = 32 := by rw [hD]; simp [nums_length, sumOf, dig, digs_len]
  rw [← hD]
  have HD := Lib.hid hD
  have HSZ := Lib.hid (show (Tryd.prog.info? 33).map (·.size) = some D.size by rw [hDs]; kernel_rfl)
  have HZZ := Lib.hid (show Y32.size = D.size by rw [hDs]; rfl)
  have HOO := Lib.hid (show D.all (·.oneCell') = true by rw [hD]; exact all_oneCell_toArray (nums_one _ _))
  have HR3 := Lib.hid ((hb3.block r (lt_heap HR2.out)).trans HR2.out)
  have HU3 := Lib.hid (HU2.out.trans (hb3.mono HU2.out.size))
  clear hD hDs hb3 HR2 HU2
  go_wp2_with (refine Au.wpList_store_row rfl 33 (.tmp 2) (.tmp 9) rfl y3 Y32 D r 33 HR3.out rfl rfl HSZ.out HZZ.out HOO.out ?_)
  have hN2 := setRow_heap y3 r _ D _ _ HR3.out
  exact bodyPost_ret (v := .agg D) (results_cell_row Tryd.results23 _ _ r 33 D (0, 0) _ rfl hN2 Tryd.underlying33 rfl HSZ.out) rfl ⟨by rw [HD.out]; rfl, below_setRow (g := r) HU3.out (by omega) D⟩

end Go.Proofs.YtndpidmbfdpiaaaDoor.Se
