/- Layer 21 (plate): what bytes are read as, by the document: of all sizes the one whose head they have. -/
import Derived.Test.YtcohehekkeeeoaaDoorPgq
namespace Go.Proofs.YtcohehekkeeeoaaDoor.Pg
open Go Go.RowKit Go.Proofs.YtcohehekkeeeoaaDoor Go.Proofs.YtcohehekkeeeoaaDoor.Re Go.Proofs.YtcohehekkeeeoaaDoor.Au
set_option linter.unusedVariables false
set_option linter.unusedSimpArgs false

/-- no head of a narrower size, or of one as wide but lower -/
def Past (l : List UInt8) (wn hn : Nat) : Prop := ∀ w' h' r, HeadOf l w' h' r → wn < w' ∨ (w' = wn ∧ hn ≤ h')

theorem Past.next {l : List UInt8} {wn hn : Nat} (h : Past l wn hn) (hno : ∀ r, ¬ HeadOf l wn hn r) : Past l wn (hn + 1) := fun w' h' r hh => by
  rcases h w' h' r hh with h1 | ⟨rfl, h2⟩
  · exact .inl h1
  · right
    refine ⟨rfl, ?_⟩
    rcases Nat.lt_or_ge hn h' with h3 | h3
    · omega
    · obtain rfl : hn = h' := by omega
      exact absurd hh (hno r)

theorem Past.row {l : List UInt8} {wn : Nat} (h : Past l wn 65) : Past l (wn + 1) 1 := fun w' h' r hh => by
  rcases h w' h' r hh with h1 | ⟨rfl, h2⟩
  · rcases Nat.lt_or_ge (wn + 1) w' with h3 | h3
    · exact .inl h3
    · exact .inr ⟨by omega, hh.2.2.2.1⟩
  · have := hh.2.2.2.2
    omega

theorem head_pre {l : List UInt8} {wn hn : Nat} {r : List UInt8} (h : HeadOf l wn hn r) : l.take (headL wn hn).length = headL wn hn := by rw [h.1]; simp

set_option maxHeartbeats 8000000 in
set_option maxRecDepth 100000 in
theorem rdecode_rest (a : Option Addr) (n c : Nat) (l : List UInt8) (w : World) (hl : BA w a n c l) (hn : n ≤ 140737488351232) (h3 : 3 ≤ n) (g0 : ((l.getD 0 0).toNat : Int) = 80) (g1 : ((l.getD 1 0).toNat : Int) = 54) (g2 : ((l.getD 2 0).toNat : Int) = 10) (hm : l.take 3 = [80, 54, 10]) : Calls Tryd.prog 24 #[.slice a n c] w fun e' w' => Reads l w e' w' := by
  have HL := Lib.hid hl
  have hlc := hl.2.1
  have G0 := Lib.hid g0
  have G1 := Lib.hid g1
  have G2 := Lib.hid g2
  clear hl g0 g1 g2
  go_enter Tryd.func24, Tryd.ntmps24
  go_upto_region 1 with fail
  have hr0 := heap_alloc_last w (.cells #[.int .i64 0, .int .i64 0, .slice none 0 0] 52)
  have hb0 := Ve.below_n1 w (.cells #[.int .i64 0, .int .i64 0, .slice none 0 0] 52)
  have hz0 := (show (w.alloc (.cells #[.int .i64 0, .int .i64 0, .slice none 0 0] 52)).heap.size = w.heap.size + 1 by simp)
  obtain ⟨y0, hy0⟩ : ∃ y0, w.alloc (.cells #[.int .i64 0, .int .i64 0, .slice none 0 0] 52) = y0 := ⟨_, rfl⟩
  obtain ⟨r, hr⟩ : ∃ r, r = w.heap.size := ⟨_, rfl⟩
  rw [hy0] at hr0 hb0 hz0 ⊢
  rw [← hr] at hr0 hz0 ⊢
  have HRW := Lib.hid hr
  clear hy0 hr
  have HB0 := Lib.hid hb0
  have HL0 := Lib.hid (HL.out.on hb0)
  have hlt0 := lt_heap hr0
  have HR0 := Lib.hid hr0
  have HI := Lib.hid (show (Tryd.prog.info? 52).map (·.size) = some 3 by kernel_rfl)
  clear hb0 hr0
  obtain ⟨ad, had, e0⟩ := HL0.out.byte (k := 0) (by omega)
  subst had
  obtain ⟨b0, hb0⟩ : ∃ b : Int, b = ((l.getD 0 0).toNat : Int) := ⟨_, rfl⟩
  rw [← hb0] at e0
  have HX0 := Lib.hid hb0
  clear hb0
  have e0_ := e0
  simp [Addr.add] at e0_
  obtain ⟨ad, had, e1⟩ := HL0.out.byte (k := 1) (by omega)
  cases had
  obtain ⟨b1, hb1⟩ : ∃ b : Int, b = ((l.getD 1 0).toNat : Int) := ⟨_, rfl⟩
  rw [← hb1] at e1
  have HX1 := Lib.hid hb1
  clear hb1
  have e1_ := e1
  simp [Addr.add] at e1_
  obtain ⟨ad, had, e2⟩ := HL0.out.byte (k := 2) (by omega)
  cases had
  obtain ⟨b2, hb2⟩ : ∃ b : Int, b = ((l.getD 2 0).toNat : Int) := ⟨_, rfl⟩
  rw [← hb2] at e2
  have HX2 := Lib.hid hb2
  clear hb2
  have e2_ := e2
  simp [Addr.add] at e2_
  have k0 : b0 = 80 := by rw [HX0.out]; exact G0.out
  have k1 : b1 = 54 := by rw [HX1.out]; exact G1.out
  have k2 : b2 = 10 := by rw [HX2.out]; exact G2.out
  subst k0
  subst k1
  subst k2
  have kk : ((10 : Int) != 10) = false := by simp
  clear G0 G1 G2 HX0 HX1 HX2
  go_upto_region 4 with fail
  obtain ⟨b, o, sp⟩ := ad
  have hsp : sp = none := by simpa [Addr.add] using World.cell?_spot e0
  subst hsp
  clear e0 e1 e2 e0_ e1_ e2_ kk
  go_loopw [4] (fun v wr => ∃ wn : Nat, 1 ≤ wn ∧ wn ≤ 65 ∧ v = .int .i64 wn ∧ Hid (Past l wn 1) ∧ Hid (Below (r + 1) y0 wr)) (fun v _ => 65 - (intOf v).toNat)
  case atStart => exact ⟨1, by omega, by omega, rfl, Lib.hid (fun w' h' r' hh => by have := hh.2.1; have := hh.2.2.2.1; omega), Lib.hid (Below.refl _ _)⟩
  case round =>
    obtain ⟨wn, hw1, hw65, rfl, HP, HU⟩ := hrel
    by_cases hw : wn ≤ 64
    · have hwi : (wn : Int) ≤ 64 := by omega
      go_upto_region 7 with fail
      go_loopw [5] (fun v wr => ∃ hn : Nat, 1 ≤ hn ∧ hn ≤ 65 ∧ v = .int .i64 hn ∧ Hid (Past l wn hn) ∧ Hid (Below (r + 1) y0 wr)) (fun v _ => 65 - (intOf v).toNat)
      case atStart => exact ⟨1, by omega, by omega, rfl, HP, HU⟩
      case round =>
        obtain ⟨hn_, hh1, hh65, rfl, HP2, HU2⟩ := hrel
        by_cases hh : hn_ ≤ 64
        · have hrw : r + 1 ≤ wr.heap.size := by have := HU2.out.size; omega
          have hlen := head_len wn hn_
          have hhi : (hn_ : Int) ≤ 64 := by omega
          go_upto_region 10 with (go_at_call 53; refine (rhead_any (wn : Int) (hn_ : Int) wn hn_ rfl rfl hw1 hw hh1 hh wr).mono ?_; rintro e y2 ⟨g, k2, rfl, ho2, hb2⟩)
          have HU3 := Lib.hid (HU2.out.trans (hb2.mono hrw))
          have HLy := Lib.hid (HL0.out.on (show Below y0.heap.size y0 y2 by rw [hz0]; exact HU3.out))
          have HHB := Lib.hid ho2.ba
          obtain ⟨L, hL⟩ : ∃ L, L = (headL wn hn_).length := ⟨_, rfl⟩
          rw [← hL] at HHB hlen ⊢
          have HLL := Lib.hid hL
          clear ho2 hb2 hL hrw
          have hcv2 := (HHB.out.on (Below.refl _ y2).drew).conv (by intro e; have := congrArg List.length e; rw [← HLL.out] at this; simp at this; omega)
          obtain ⟨T, hT⟩ : ∃ T : ByteArray, T = ⟨(headL wn hn_).toArray⟩ := ⟨_, rfl⟩
          rw [← hT] at hcv2
          have HT := Lib.hid hT
          clear hT
          by_cases hLn : L ≤ n
          · have hcv1 := ((HLy.out.on (Below.refl _ y2).drew).take hLn).conv (by intro e; have := congrArg List.length e; rw [List.length_take, ← HLy.out.1, Nat.min_eq_left hLn] at this; simp at this; omega)
            have hLc : L ≤ c := by omega
            have hnl : ¬ (n : Int) < L := by omega
            have hnl' : decide ((n : Int) < L) = false := by simp [hnl]
            by_cases hfit : l.take L = headL wn hn_
            · rw [hfit, ← HT.out] at hcv1
              have HH := Lib.hid (show HeadOf l wn hn_ (l.drop L) from ⟨by rw [← hfit, List.take_append_drop], hw1, hw, hh1, hh⟩)
              refine wp_region_held_drew (S := fun y => (convert 56 9 (.slice (some ⟨b, o, none⟩) L c)).run Tryd.prog y = .ok (.string T) y ∧ (convert 56 9 (.slice (some ⟨g, 0, none⟩) L k2)).run Tryd.prog y = .ok (.string T) y) (by kernel_rfl) (⟨hcv1, hcv2⟩) (fun hS0 => ?_)
              obtain ⟨y3, hy3⟩ : ∃ y, y2.drew = y := ⟨_, rfl⟩
              have HU4 := Lib.hid (show Below (r + 1) y0 y3 by rw [← hy3]; exact HU3.out.drew)
              have HL3 := Lib.hid (show BA y3 (some ⟨b, o, none⟩) n c l by rw [← hy3]; exact HLy.out.on (Below.refl _ y2).drew)
              rw [hy3] at hS0 ⊢
              clear hy3 hcv1 hcv2
              refine wpAnyH_take (i := 0) (v := ?_) rfl (by kernel_rfl) (by kernel_rfl) (by kernel_rfl) (fun _ _ _ h => h) (Or.inl ⟨by kernel_rfl, by (intro wz hSz; obtain ⟨cv1_, cv2_⟩ := hSz; go_simp; try with_reducible rfl)⟩) hS0 ?_
              go_simp
              refine wpAnyH_take (i := 1) (v := ?_) rfl (by kernel_rfl) (by kernel_rfl) (by kernel_rfl) (fun _ _ _ h => h) (Or.inl ⟨by kernel_rfl, by (intro wz hSz; obtain ⟨cv1_, cv2_⟩ := hSz; go_simp; try with_reducible rfl)⟩) hS0 ?_
              go_simp
              refine wpAnyH_take (i := 2) (v := ?_) rfl (by kernel_rfl) (by kernel_rfl) (by kernel_rfl) (fun _ _ _ h => h) (Or.inl ⟨by kernel_rfl, by (intro wz hSz; obtain ⟨cv1_, cv2_⟩ := hSz; go_simp; try with_reducible rfl)⟩) hS0 ?_
              go_simp
              refine wpAnyH_take (i := 3) (v := ?_) rfl (by kernel_rfl) (by kernel_rfl) (by kernel_rfl) (fun _ _ _ h => h) (Or.inl ⟨by kernel_rfl, by (intro wz hSz; obtain ⟨cv1_, cv2_⟩ := hSz; go_simp; try with_reducible rfl)⟩) hS0 ?_
              go_simp
              refine wpAnyH_take (i := 4) (v := ?_) rfl (by kernel_rfl) (by kernel_rfl) (by kernel_rfl) (fun _ _ _ h => h) (Or.inl ⟨by kernel_rfl, by (intro wz hSz; obtain ⟨cv1_, cv2_⟩ := hSz; go_simp; try with_reducible rfl)⟩) hS0 ?_
              go_simp
              refine wpAnyH_take (i := 5) (v := ?_) rfl (by kernel_rfl) (by kernel_rfl) (by kernel_rfl) (fun _ _ _ h => h) (Or.inl ⟨by kernel_rfl, by (intro wz hSz; obtain ⟨cv1_, cv2_⟩ := hSz; go_simp; try with_reducible rfl)⟩) hS0 ?_
              go_simp
              refine wpAnyH_take (i := 6) (v := ?_) rfl (by kernel_rfl) (by kernel_rfl) (by kernel_rfl) (fun _ _ _ h => h) (Or.inl ⟨by kernel_rfl, by (intro wz hSz; obtain ⟨cv1_, cv2_⟩ := hSz; go_simp; try with_reducible rfl)⟩) hS0 ?_
              go_simp
              refine wpAnyH_take (i := 7) (v := ?_) rfl (by kernel_rfl) (by kernel_rfl) (by kernel_rfl) (fun _ _ _ h => h) (Or.inl ⟨by kernel_rfl, by (intro wz hSz; obtain ⟨cv1_, cv2_⟩ := hSz; go_simp; try with_reducible rfl)⟩) hS0 ?_
              go_simp
              refine wpAnyH_take (i := 8) (v := ?_) rfl (by kernel_rfl) (by kernel_rfl) (by kernel_rfl) (fun _ _ _ h => h) (Or.inl ⟨by kernel_rfl, by (intro wz hSz; obtain ⟨cv1_, cv2_⟩ := hSz; go_simp; try with_reducible rfl)⟩) hS0 ?_
              go_simp
              refine wpAnyH_take (i := 9) (v := ?_) rfl (by kernel_rfl) (by kernel_rfl) (by kernel_rfl) (fun _ _ _ h => h) (Or.inl ⟨by kernel_rfl, by (intro wz hSz; obtain ⟨cv1_, cv2_⟩ := hSz; go_simp; try with_reducible rfl)⟩) hS0 ?_
              go_simp
              refine wpAnyH_take (i := 10) (v := ?_) rfl (by kernel_rfl) (by kernel_rfl) (by kernel_rfl) (fun _ _ _ h => h) (Or.inl ⟨by kernel_rfl, by (intro wz hSz; obtain ⟨cv1_, cv2_⟩ := hSz; go_simp; try with_reducible rfl)⟩) hS0 ?_
              go_simp
              refine wpAnyH_take (i := 11) (v := ?_) rfl (by kernel_rfl) (by kernel_rfl) (by kernel_rfl) (fun _ _ _ h => h) (Or.inl ⟨by kernel_rfl, by (intro wz hSz; obtain ⟨cv1_, cv2_⟩ := hSz; go_simp; try with_reducible rfl)⟩) hS0 ?_
              go_simp
              refine wpAnyH_take (i := 12) (v := ?_) rfl (by kernel_rfl) (by kernel_rfl) (by kernel_rfl) (fun _ _ _ h => h) (Or.inl ⟨by kernel_rfl, by (intro wz hSz; obtain ⟨cv1_, cv2_⟩ := hSz; go_simp; try with_reducible rfl)⟩) hS0 ?_
              go_simp
              refine wpAnyH_take (i := 13) (v := ?_) rfl (by kernel_rfl) (by kernel_rfl) (by kernel_rfl) (fun _ _ _ h => h) (Or.inl ⟨by kernel_rfl, by (intro wz hSz; obtain ⟨cv1_, cv2_⟩ := hSz; go_simp; try with_reducible rfl)⟩) hS0 ?_
              go_simp
              refine wpAnyH_take (i := 14) (v := ?_) rfl (by kernel_rfl) (by kernel_rfl) (by kernel_rfl) (fun _ _ _ h => h) (Or.inl ⟨by kernel_rfl, by (intro wz hSz; obtain ⟨cv1_, cv2_⟩ := hSz; go_simp; try with_reducible rfl)⟩) hS0 ?_
              go_simp
              refine wpAnyH_done (by kernel_rfl) ?_ _
              clear hS0
              obtain ⟨K, hK⟩ : ∃ K, K = wn * hn_ := ⟨_, rfl⟩
              have HK := Lib.hid hK
              have hKb : 1 ≤ K ∧ K ≤ 4096 := by
                rw [hK]
                exact ⟨Nat.mul_le_mul hw1 hh1, Nat.mul_le_mul hw hh⟩
              have hKi : (K : Int) = (wn : Int) * (hn_ : Int) := by rw [hK]; simp
              have hM3 : 3 * (wn : Int) * (hn_ : Int) = 3 * (K : Int) := by rw [hKi, Int.mul_assoc]
              have hwr : IntKind.i64.wrap (3 * (wn : Int) * (hn_ : Int)) = 3 * (K : Int) := by rw [hM3, IntKind.wrap_i64]; omega
              have hwk : IntKind.i64.wrap ((wn : Int) * (hn_ : Int)) = (K : Int) := by rw [← hKi, IntKind.wrap_i64]; omega
              obtain ⟨N, hN0⟩ : ∃ N, N = n - L := ⟨_, rfl⟩
              have HN := Lib.hid hN0
              have hRl : (l.drop L).length = N := by rw [List.length_drop, ← HL3.out.1]; exact hN0.symm
              have HRl := Lib.hid hRl
              have HR3 := Lib.hid ((HU4.out.block r (by omega)).trans HR0.out)
              have HB3 := Lib.hid (HB0.out.trans (HU4.out.mono (by have := HRW.out; omega)))
              clear hK hKi hM3 hRl hnl hnl'
              rcases Nat.lt_trichotomy N (3 * K) with hlt | heq | hgt
              · have hg : ((n - L : Nat) : Int) < 3 * (K : Int) := by rw [← hN0]; omega
                have HD := Lib.hid (show Dec l 9 0 0 [] from .short HH.out (by rw [HRl.out, ← HK.out]; exact hlt))
                clear hN0
                by_cases hck : c = L
                · subst hck
                  have s0 := cell_of_row _ _ 0 _ _ _ HR3.out
                  have s1 := cell_of_row _ _ 1 _ _ _ HR3.out
                  have s2 := cell_of_row _ _ 2 _ _ _ HR3.out
                  simp at s0 s1 s2
                  have hf : ∀ j, y3.frozen? ⟨r, j, none⟩ = false := fun j => by simp [World.frozen?, HR3.out]
                  have hf0 := hf 0
                  have hf1 := hf 1
                  have hf2 := hf 2
                  clear hf
                  go_wp2
                  have hN := setRow_heap y3 r _ #[.int .i64 0, .int .i64 0, .slice none 0 0] _ _ HR3.out
                  have HBN := Lib.hid (below_setRow (g := r) HB3.out (by have := HRW.out; omega) #[.int .i64 0, .int .i64 0, .slice none 0 0])
                  rw [part3r HR3.out (.int .i64 0) (.int .i64 0) (.slice none 0 0)]
                  exact bodyPost_ret (v := .tuple #[.agg #[.int .i64 0, .int .i64 0, .slice none 0 0], .int .i64 9]) (results_row2 (t := 52) Tryd.results24 rfl rfl hN Tryd.underlying52 rfl HI.out) rfl ⟨(9 : Nat), (0 : Nat), (0 : Nat), (0 : Nat), ([] : List UInt8), Value.slice none 0 0, HD.out, rfl, rfl, World.ownsRow_nil _ _ _ _, HBN.out⟩
                · clear hlc
                  have s0 := cell_of_row _ _ 0 _ _ _ HR3.out
                  have s1 := cell_of_row _ _ 1 _ _ _ HR3.out
                  have s2 := cell_of_row _ _ 2 _ _ _ HR3.out
                  simp at s0 s1 s2
                  have hf : ∀ j, y3.frozen? ⟨r, j, none⟩ = false := fun j => by simp [World.frozen?, HR3.out]
                  have hf0 := hf 0
                  have hf1 := hf 1
                  have hf2 := hf 2
                  clear hf
                  go_wp2
                  have hN := setRow_heap y3 r _ #[.int .i64 0, .int .i64 0, .slice none 0 0] _ _ HR3.out
                  have HBN := Lib.hid (below_setRow (g := r) HB3.out (by have := HRW.out; omega) #[.int .i64 0, .int .i64 0, .slice none 0 0])
                  rw [part3r HR3.out (.int .i64 0) (.int .i64 0) (.slice none 0 0)]
                  exact bodyPost_ret (v := .tuple #[.agg #[.int .i64 0, .int .i64 0, .slice none 0 0], .int .i64 9]) (results_row2 (t := 52) Tryd.results24 rfl rfl hN Tryd.underlying52 rfl HI.out) rfl ⟨(9 : Nat), (0 : Nat), (0 : Nat), (0 : Nat), ([] : List UInt8), Value.slice none 0 0, HD.out, rfl, rfl, World.ownsRow_nil _ _ _ _, HBN.out⟩
              · have hg : ¬ ((n - L : Nat) : Int) < 3 * (K : Int) := by rw [← hN0]; omega
                have hg2 : ¬ 3 * (K : Int) < ((n - L : Nat) : Int) := by rw [← hN0]; omega
                have HD := Lib.hid (show Dec l 0 wn hn_ (l.drop L) from .ok HH.out (by rw [HRl.out, ← HK.out]; exact heq))
                have hck : ¬ c = L := by omega
                obtain ⟨R, hR⟩ : ∃ R, R = l.drop L := ⟨_, rfl⟩
                have HRR := Lib.hid hR
                have HRlen := Lib.hid (show R.length = 3 * K by rw [hR, HRl.out]; exact heq)
                have HBR := Lib.hid (show BA y3 (some ⟨b, o + L, none⟩) (n - L) (c - L) R by
                  have := HL3.out.drop hLn
                  rw [if_neg hck] at this
                  simp only [Option.map_some, add_at] at this
                  rw [hR]
                  exact this)
                have HNK := Lib.hid (show n - L = 3 * K by omega)
                clear hN0 heq hR hlt0
                go_upto_region 16 with fail
                clear hg hg2 hwr
                go_upto_region 18 with fail
                have hb4 := Ve.below_n1 y3 (.cells #[.int .i64 wn, .int .i64 hn_, .slice none 0 0] 52)
                have hd4 := heap_alloc_last y3 (.cells #[.int .i64 wn, .int .i64 hn_, .slice none 0 0] 52)
                have hs4 : (y3.alloc (.cells #[.int .i64 wn, .int .i64 hn_, .slice none 0 0] 52)).heap.size = y3.heap.size + 1 := by simp
                have HBR4 := Lib.hid (HBR.out.on hb4)
                have hbd : b < y3.heap.size := by
                  obtain ⟨ad', hae, hce⟩ := HBR.out.byte (k := 0) (by have := HNK.out; omega)
                  cases hae
                  have := World.block_lt_of_cell? _ _ hce
                  rwa [add_at] at this
                have hrd : r < y3.heap.size := lt_heap HR3.out
                obtain ⟨y4, hy4⟩ : ∃ y4, y3.alloc (.cells #[.int .i64 wn, .int .i64 hn_, .slice none 0 0] 52) = y4 := ⟨_, rfl⟩
                obtain ⟨d, hdd⟩ : ∃ d, d = y3.heap.size := ⟨_, rfl⟩
                rw [hy4] at hb4 hd4 hs4 HBR4 ⊢
                rw [← hdd] at hd4 hs4 hbd hrd ⊢
                have HR4 := Lib.hid ((hb4.block r (by omega)).trans HR3.out)
                have HB4 := Lib.hid (HB3.out.trans (hb4.mono HB3.out.size))
                have HD4 := Lib.hid hd4
                have hrw_ : w.heap.size ≤ r := by have := HRW.out; omega
                clear hy4 hdd hb4 hd4
                obtain ⟨i0, hi, hz0_, hz1_, hz2_⟩ := info_parts info3
                go_loopw [9] (fun v wr => ∃ (i : Nat) (av : Option Addr) (cv : Nat), i ≤ K ∧ v = .int .i64 i ∧ Hid (wr.heap[d]? = some (.cells #[.int .i64 wn, .int .i64 hn_, .slice av i cv] 52 (0, 0))) ∧ Hid (wr.ownsRow (d + 1) 69 3 (.slice av i cv) i (vals (R.take (i * 3)))) ∧ Hid (Aw (fun k => k < d + 1 ∧ k ≠ d) y4 wr)) (fun v _ => K - (intOf v).toNat)
                case atStart => exact ⟨0, none, 0, by omega, rfl, HD4, Lib.hid (by simpa [vals] using World.ownsRow_nil _ _ _ _), Lib.hid (Aw.refl _ _)⟩
                case round =>
                  obtain ⟨i, av, cv, hiK, rfl, HDW, HO, HA⟩ := hrel
                  by_cases hlt : i < K
                  · have hlti : (i : Int) < K := by omega
                    have hI3 : i * 3 + 3 ≤ n - L := by have := HNK.out; omega
                    have hcl : ∀ j, j < 3 → wr.cell? ⟨b, o + L + (3 * i + j), none⟩ = some (.int .u8 (bn R (i * 3 + j) : Nat)) := fun j hj => by
                      obtain ⟨ad', hae, hce⟩ := HBR4.out.byte (k := i * 3 + j) (by omega)
                      cases hae
                      rw [add_at, show o + L + (i * 3 + j) = o + L + (3 * i + j) by omega] at hce
                      rw [HA.out.cell (p := ⟨b, o + L + (3 * i + j), none⟩) ⟨by show b < d + 1; omega, by show b ≠ d; omega⟩ (World.block_lt_of_cell? _ _ hce)]
                      exact hce
                    have e0 := hcl 0 (by omega)
                    have e1 := hcl 1 (by omega)
                    have e2 := hcl 2 (by omega)
                    simp only [Nat.add_zero] at e0
                    obtain ⟨z0, hz0⟩ : ∃ z : Int, z = ((bn R (i * 3) : Nat) : Int) := ⟨_, rfl⟩
                    obtain ⟨z1, hz1⟩ : ∃ z : Int, z = ((bn R (i * 3 + 1) : Nat) : Int) := ⟨_, rfl⟩
                    obtain ⟨z2, hz2⟩ : ∃ z : Int, z = ((bn R (i * 3 + 2) : Nat) : Int) := ⟨_, rfl⟩
                    rw [← hz0] at e0
                    rw [← hz1] at e1
                    rw [← hz2] at e2
                    have HX := Lib.hid (show vals (R.take ((i + 1) * 3)) = vals (R.take (i * 3)) ++ [.int .u8 z0, .int .u8 z1, .int .u8 z2] by rw [take3 (by have := HRlen.out; omega), ← hz0, ← hz1, ← hz2])
                    obtain ⟨q0, hq0⟩ : ∃ q, q = 3 * i := ⟨_, rfl⟩
                    obtain ⟨q1, hq1⟩ : ∃ q, q = 3 * i + 1 := ⟨_, rfl⟩
                    obtain ⟨q2, hq2⟩ : ∃ q, q = 3 * i + 2 := ⟨_, rfl⟩
                    rw [← hq0] at e0
                    rw [← hq1] at e1
                    rw [← hq2] at e2
                    have j0 : (q0 : Int) < ((n - L : Nat) : Int) := by omega
                    have j1 : (q1 : Int) < ((n - L : Nat) : Int) := by omega
                    have j2 : (q2 : Int) < ((n - L : Nat) : Int) := by omega
                    have v0 : IntKind.i64.wrap (3 * (i : Int)) = (q0 : Int) := by rw [IntKind.wrap_i64]; omega
                    have v1 : IntKind.i64.wrap ((q0 : Int) + 1) = (q1 : Int) := by rw [IntKind.wrap_i64]; omega
                    have v2 : IntKind.i64.wrap ((q0 : Int) + 2) = (q2 : Int) := by rw [IntKind.wrap_i64]; omega
                    clear hq0 hq1 hq2
                    have hs9W := HA.out.size
                    rw [hs4] at hs9W
                    have hdW := HDW.out
                    clear hcl hz0 hz1 hz2 HDW
                    go_upto_region 20 with fail
                    refine Ol.way_drew (S := fun y => y.heap[d]? = some (.cells #[.int .i64 wn, .int .i64 hn_, .slice av i cv] 52 (0, 0)) ∧ y.cell? ⟨b, o + L + q0, none⟩ = some (.int .u8 z0) ∧ y.cell? ⟨b, o + L + q1, none⟩ = some (.int .u8 z1) ∧ y.cell? ⟨b, o + L + q2, none⟩ = some (.int .u8 z2)) (stop := 23) (by kernel_rfl) ⟨hdW, e0, e1, e2⟩ (fun hS0 => ?_)
                    obtain ⟨w0, hw0⟩ : ∃ y, wr.drew = y := ⟨_, rfl⟩
                    have HO0 := Lib.hid (show w0.ownsRow (d + 1) 69 3 (.slice av i cv) i (vals (R.take (i * 3))) by rw [← hw0]; exact Ls.own_below HO.out (Below.refl _ wr).drew)
                    have HA0 := Lib.hid (show Aw (fun k => k < d + 1 ∧ k ≠ d) y4 w0 by rw [← hw0]; exact HA.out.trans (Aw.of (Below.refl _ wr).drew))
                    have hs0 : d + 1 ≤ w0.heap.size := by rw [← hw0]; exact hs9W
                    rw [hw0] at hS0 ⊢
                    clear hw0 e0 e1 e2 hdW hs9W
                    refine Ol.way_plain (i := 0) (v := ?_) rfl (by kernel_rfl) (by kernel_rfl) (by kernel_rfl) (fun _ _ _ h => h) (by decide) (Or.inl ⟨by kernel_rfl, by (intro wz _; go_simp; try with_reducible rfl)⟩) (Ol.on hS0) ?_
                    go_simp
                    refine Ol.way_take (i := 1) (v := ?_) rfl (by kernel_rfl) (by kernel_rfl) (by kernel_rfl) (fun _ _ _ h => h) (by decide) (by kernel_rfl) (by kernel_rfl) (Or.inl ⟨by kernel_rfl, by (intro wz hSz; have cq_ := cell_of_row _ _ 2 _ _ _ hSz.1; simp at cq_; go_simp; try with_reducible rfl)⟩) hS0 ?_
                    go_simp
                    refine Ol.way_plain (i := 2) (v := ?_) rfl (by kernel_rfl) (by kernel_rfl) (by kernel_rfl) (fun _ _ _ h => h) (by decide) (Or.inl ⟨by kernel_rfl, by (intro wz _; go_simp; try with_reducible rfl)⟩) (Ol.on hS0) ?_
                    go_simp
                    refine Ol.way_plain (i := 3) (v := ?_) rfl (by kernel_rfl) (by kernel_rfl) (by kernel_rfl) (fun _ _ _ h => h) (by decide) (Or.inl ⟨by kernel_rfl, by (intro wz _; go_simp; try with_reducible rfl)⟩) (Ol.on hS0) ?_
                    go_simp
                    refine Ol.way_plain (i := 4) (v := ?_) rfl (by kernel_rfl) (by kernel_rfl) (by kernel_rfl) (fun _ _ _ h => h) (by decide) (Or.inl ⟨by kernel_rfl, by (intro wz _; go_simp; try with_reducible rfl)⟩) (Ol.on hS0) ?_
                    go_simp
                    refine Ol.way_plain (i := 5) (v := ?_) rfl (by kernel_rfl) (by kernel_rfl) (by kernel_rfl) (fun _ _ _ h => h) (by decide) (Or.inl ⟨by kernel_rfl, by (intro wz _; go_simp; try with_reducible rfl)⟩) (Ol.on hS0) ?_
                    go_simp
                    refine Ol.way_take (i := 6) (v := ?_) rfl (by kernel_rfl) (by kernel_rfl) (by kernel_rfl) (fun _ _ _ h => h) (by decide) (by kernel_rfl) (by kernel_rfl) (Or.inl ⟨by kernel_rfl, by (intro wz hSz; obtain ⟨cq0_, cq1_, cq2_⟩ := hSz.2; go_simp; try with_reducible rfl)⟩) hS0 ?_
                    go_simp
                    refine Ol.way_plain (i := 7) (v := ?_) rfl (by kernel_rfl) (by kernel_rfl) (by kernel_rfl) (fun _ _ _ h => h) (by decide) (Or.inl ⟨by kernel_rfl, by (intro wz _; go_simp; try with_reducible rfl)⟩) (Ol.on hS0) ?_
                    go_simp
                    refine Ol.way_plain (i := 8) (v := ?_) rfl (by kernel_rfl) (by kernel_rfl) (by kernel_rfl) (fun _ _ _ h => h) (by decide) (Or.inl ⟨by kernel_rfl, by (intro wz _; go_simp; try with_reducible rfl)⟩) (Ol.on hS0) ?_
                    go_simp
                    refine Ol.way_plain (i := 9) (v := ?_) rfl (by kernel_rfl) (by kernel_rfl) (by kernel_rfl) (fun _ _ _ h => h) (by decide) (Or.inl ⟨by kernel_rfl, by (intro wz _; go_simp; try with_reducible rfl)⟩) (Ol.on hS0) ?_
                    go_simp
                    refine Ol.way_plain (i := 10) (v := ?_) rfl (by kernel_rfl) (by kernel_rfl) (by kernel_rfl) (fun _ _ _ h => h) (by decide) (Or.inl ⟨by kernel_rfl, by (intro wz _; go_simp; try with_reducible rfl)⟩) (Ol.on hS0) ?_
                    go_simp
                    refine Ol.way_plain (i := 11) (v := ?_) rfl (by kernel_rfl) (by kernel_rfl) (by kernel_rfl) (fun _ _ _ h => h) (by decide) (Or.inl ⟨by kernel_rfl, by (intro wz _; go_simp; try with_reducible rfl)⟩) (Ol.on hS0) ?_
                    go_simp
                    refine Ol.way_take (i := 12) (v := ?_) rfl (by kernel_rfl) (by kernel_rfl) (by kernel_rfl) (fun _ _ _ h => h) (by decide) (by kernel_rfl) (by kernel_rfl) (Or.inl ⟨by kernel_rfl, by (intro wz hSz; obtain ⟨cq0_, cq1_, cq2_⟩ := hSz.2; go_simp; try with_reducible rfl)⟩) hS0 ?_
                    go_simp
                    refine Ol.way_plain (i := 13) (v := ?_) rfl (by kernel_rfl) (by kernel_rfl) (by kernel_rfl) (fun _ _ _ h => h) (by decide) (Or.inl ⟨by kernel_rfl, by (intro wz _; go_simp; try with_reducible rfl)⟩) (Ol.on hS0) ?_
                    go_simp
                    refine Ol.way_plain (i := 14) (v := ?_) rfl (by kernel_rfl) (by kernel_rfl) (by kernel_rfl) (fun _ _ _ h => h) (by decide) (Or.inl ⟨by kernel_rfl, by (intro wz _; go_simp; try with_reducible rfl)⟩) (Ol.on hS0) ?_
                    go_simp
                    refine Ol.way_plain (i := 15) (v := ?_) rfl (by kernel_rfl) (by kernel_rfl) (by kernel_rfl) (fun _ _ _ h => h) (by decide) (Or.inl ⟨by kernel_rfl, by (intro wz _; go_simp; try with_reducible rfl)⟩) (Ol.on hS0) ?_
                    go_simp
                    refine Ol.way_plain (i := 16) (v := ?_) rfl (by kernel_rfl) (by kernel_rfl) (by kernel_rfl) (fun _ _ _ h => h) (by decide) (Or.inl ⟨by kernel_rfl, by (intro wz _; go_simp; try with_reducible rfl)⟩) (Ol.on hS0) ?_
                    go_simp
                    refine Ol.way_plain (i := 17) (v := ?_) rfl (by kernel_rfl) (by kernel_rfl) (by kernel_rfl) (fun _ _ _ h => h) (by decide) (Or.inl ⟨by kernel_rfl, by (intro wz _; go_simp; try with_reducible rfl)⟩) (Ol.on hS0) ?_
                    go_simp
                    refine Ol.way_take (i := 18) (v := ?_) rfl (by kernel_rfl) (by kernel_rfl) (by kernel_rfl) (fun _ _ _ h => h) (by decide) (by kernel_rfl) (by kernel_rfl) (Or.inl ⟨by kernel_rfl, by (intro wz hSz; obtain ⟨cq0_, cq1_, cq2_⟩ := hSz.2; go_simp; try with_reducible rfl)⟩) hS0 ?_
                    go_simp
                    refine Ol.way_plain (i := 19) (v := ?_) rfl (by kernel_rfl) (by kernel_rfl) (by kernel_rfl) (fun _ _ _ h => h) (by decide) (Or.inl ⟨by kernel_rfl, by (intro wz _; go_simp; try with_reducible rfl)⟩) (Ol.on hS0) ?_
                    go_simp
                    refine Ol.way_ready (rs := [20]) (by kernel_rfl) (by simp) ?_
                    refine Ol.Each.cons rfl (fun K hK => ?_) Ol.Each.nil
                    go_simp
                    have hb1 := Ve.below_n1 w0 (.cells #[.int .u8 z0, .int .u8 z1, .int .u8 z2] 69)
                    have HC := Lib.hid (cells3 w0 (.int .u8 z0) (.int .u8 z1) (.int .u8 z2) 69)
                    have HO1 := Lib.hid (Ls.own_below HO0.out hb1)
                    have HA1 := Lib.hid (HA0.out.trans (Aw.of hb1))
                    have hS1' : (w0.alloc (.cells #[.int .u8 z0, .int .u8 z1, .int .u8 z2] 69)).heap[d]? = some (.cells #[.int .i64 wn, .int .i64 hn_, .slice av i cv] 52 (0, 0)) ∧ (w0.alloc (.cells #[.int .u8 z0, .int .u8 z1, .int .u8 z2] 69)).cell? ⟨b, o + L + q0, none⟩ = some (.int .u8 z0) ∧ (w0.alloc (.cells #[.int .u8 z0, .int .u8 z1, .int .u8 z2] 69)).cell? ⟨b, o + L + q1, none⟩ = some (.int .u8 z1) ∧ (w0.alloc (.cells #[.int .u8 z0, .int .u8 z1, .int .u8 z2] 69)).cell? ⟨b, o + L + q2, none⟩ = some (.int .u8 z2) :=
                      ⟨(hb1.block d (by omega)).trans hS0.1, old1 _ hS0.2.1, old1 _ hS0.2.2.1, old1 _ hS0.2.2.2⟩
                    have hs1 : (w0.alloc (.cells #[.int .u8 z0, .int .u8 z1, .int .u8 z2] 69)).heap.size = w0.heap.size + 1 := by simp
                    obtain ⟨h, hh_⟩ : ∃ h, h = w0.heap.size := ⟨_, rfl⟩
                    obtain ⟨w1, hw1_⟩ : ∃ w1, w0.alloc (.cells #[.int .u8 z0, .int .u8 z1, .int .u8 z2] 69) = w1 := ⟨_, rfl⟩
                    rw [hw1_] at HC HO1 HA1 hS1' hs1 ⊢
                    rw [← hh_] at HC hs1 ⊢
                    have hhd : d + 1 ≤ h := by omega
                    clear hw1_ hh_ hb1
                    refine Ol.keep hK _ _ hS1' (fun hS1 => ?_)
                    clear hK hS1' hS0
                    refine Ol.way_ready (rs := [21]) (by kernel_rfl) (by simp) ?_
                    refine Ol.Each.cons rfl (fun K hK => ?_) Ol.Each.nil
                    refine step_append_lies _ rfl _ _ 42 rfl (d + 1) 69 i0 (.agg #[.int .u8 0, .int .u8 0, .int .u8 0]) 3 3 Tryd.underlying42 hi hz0_ hz1_ hz2_ rfl (by decide) _ _ _ rfl HO1.out ⟨h, 0, none⟩ 1 1 [.int .u8 z0, .int .u8 z1, .int .u8 z2] rfl rfl ?c1 ?c2 (by omega) ?c3 ?c4 ?c5 _ rfl ?_
                    case c1 => exact HC.out
                    case c2 => intro u hu; simp at hu; rcases hu with rfl | rfl | rfl <;> rfl
                    case c3 => unfold maxLen; omega
                    case c4 => omega
                    case c5 => omega
                    intro g9 cg w2 ho2 hg2_ hgk hlt2
                    have hg2 : w1.grownBy w2 (Value.slice av i cv).ownBlock := hg2_
                    have hqo := fun r hr => (HO1.out.lt r hr).1
                    have hgd : d + 1 ≤ g9 := by
                      rcases hgk with h_ | h_
                      · exact hqo _ h_
                      · have : w1.heap.size = g9 := h_.symm
                        omega
                    have HA2 := Lib.hid (HA1.out.step hg2 (fun r hr => by have := hqo r hr; omega))
                    rw [← HX.out] at ho2
                    have hd2 := (hg2.block d (lt_heap hS1.1) (fun e => by have := hqo _ e.symm; omega)).trans hS1.1
                    have hbb : w2.heap[b]? = w1.heap[b]? := hg2.block b (World.block_lt_of_cell? w1 _ hS1.2.1) (fun e => by have := hqo _ e.symm; omega)
                    have hS2' : w2.heap[d]? = some (.cells #[.int .i64 wn, .int .i64 hn_, .slice av i cv] 52 (0, 0)) ∧ w2.cell? ⟨b, o + L + q0, none⟩ = some (.int .u8 z0) ∧ w2.cell? ⟨b, o + L + q1, none⟩ = some (.int .u8 z1) ∧ w2.cell? ⟨b, o + L + q2, none⟩ = some (.int .u8 z2) :=
                      ⟨hd2, (World.cell?_of_block (w := w1) (a := ⟨b, o + L + q0, none⟩) hbb).trans hS1.2.1, (World.cell?_of_block (w := w1) (a := ⟨b, o + L + q1, none⟩) hbb).trans hS1.2.2.1, (World.cell?_of_block (w := w1) (a := ⟨b, o + L + q2, none⟩) hbb).trans hS1.2.2.2⟩
                    refine Ol.keep hK _ _ hS2' (fun hS2 => ?_)
                    clear hK hS2' hg2_ hg2 hgk hbb HC HO1 HO0 hS1
                    refine Ol.way_plain (i := 22) (v := ?_) rfl (by kernel_rfl) (by kernel_rfl) (by kernel_rfl) (fun _ _ _ h => h) (by decide) (Or.inl ⟨by kernel_rfl, by (intro wz _; go_simp; try with_reducible rfl)⟩) (Ol.on hS2) ?_
                    go_simp
                    refine Ol.way_ready (rs := [23]) (by kernel_rfl) (by simp) ?_
                    refine Ol.Each.cons rfl (fun K hK => ?_) Ol.Each.nil
                    have p0 := cell_of_row _ _ 2 _ _ _ hd2
                    simp at p0
                    have fz : ∀ j, w2.frozen? ⟨d, j, none⟩ = false := fun j => by simp [World.frozen?, hd2]
                    go_simp
                    clear fz p0
                    have hN : (w2.setCell ⟨d, 2, none⟩ (.slice (some ⟨g9, 0, none⟩) (i + 1) cg)).heap[d]? = some (.cells #[.int .i64 wn, .int .i64 hn_, .slice (some ⟨g9, 0, none⟩) (i + 1) cg] 52 (0, 0)) := heap_setCell_same _ _ 2 _ _ _ hd2
                    have HA4 := Lib.hid (HA2.out.set (b := d) (fun h => h.2 rfl) 2 (.slice (some ⟨g9, 0, none⟩) (i + 1) cg))
                    have HO4 := Lib.hid (own_via (w' := (w2.setCell ⟨d, 2, none⟩ (.slice (some ⟨g9, 0, none⟩) (i + 1) cg))) ho2 (fun r hr => Below.heap_setCell _ _ _ _ (by simp [Value.ownBlock] at hr; show r ≠ d; omega)))
                    refine Ol.past hK (by kernel_rfl) _ _ ?_
                    clear hK ho2
                    refine Ol.way_done (by kernel_rfl) ?_ _
                    go_wp2
                    go_roundw
                    case rel => exact ⟨i + 1, _, _, by omega, by go_num, Lib.hid hN, HO4, HA4⟩
                    case measure => simp [intOf]; omega
                  · obtain rfl : i = K := by omega
                    have HOF := Lib.hid (show wr.ownsRow w.heap.size 69 3 (.slice av i cv) i (vals R) by
                      have := HO.out
                      rw [List.take_of_length_le (by have := HRlen.out; omega)] at this
                      exact ownsRow_le_ this (by omega))
                    have HRq := Lib.hid ((HA.out.block r ⟨by omega, by omega⟩ (lt_heap HR4.out)).trans HR4.out)
                    have HBq := Lib.hid (HB4.out.trans (HA.out.below (fun k hk => ⟨by omega, by omega⟩) HB4.out.size))
                    have t0 := cell_of_row _ _ 0 _ _ _ HDW.out
                    have t1 := cell_of_row _ _ 1 _ _ _ HDW.out
                    have t2 := cell_of_row _ _ 2 _ _ _ HDW.out
                    simp at t0 t1 t2
                    have HOW := Lib.hid (show ∀ q, (Value.slice av i cv).ownBlock = some q → q ≠ r from fun q hq => by have := (HO.out.lt q hq).1; omega)
                    have s0 := cell_of_row _ _ 0 _ _ _ HRq.out
                    have s1 := cell_of_row _ _ 1 _ _ _ HRq.out
                    have s2 := cell_of_row _ _ 2 _ _ _ HRq.out
                    simp at s0 s1 s2
                    have hf : ∀ j, wr.frozen? ⟨r, j, none⟩ = false := fun j => by simp [World.frozen?, HRq.out]
                    have hf0 := hf 0
                    have hf1 := hf 1
                    have hf2 := hf 2
                    clear hf
                    go_wp2
                    have hN := setRow_heap wr r _ #[.int .i64 wn, .int .i64 hn_, .slice av i cv] _ _ HRq.out
                    have HBN := Lib.hid (below_setRow (g := r) HBq.out (by have := HRW.out; omega) #[.int .i64 wn, .int .i64 hn_, .slice av i cv])
                    rw [part3r HRq.out (.int .i64 wn) (.int .i64 hn_) (.slice av i cv)]
                    exact bodyPost_ret (v := .tuple #[.agg #[.int .i64 wn, .int .i64 hn_, .slice av i cv], .int .i64 0]) (results_row2 (t := 52) Tryd.results24 rfl rfl hN Tryd.underlying52 rfl HI.out) rfl ⟨(0 : Nat), wn, hn_, i, R, .slice av i cv, (by rw [HRR.out]; exact HD.out), rfl, HK.out, own_via HOF.out (fun q hq => setRow_other _ _ _ _ (HOW.out q hq)), HBN.out⟩
              · have hg : ¬ ((n - L : Nat) : Int) < 3 * (K : Int) := by rw [← hN0]; omega
                have hg2 : 3 * (K : Int) < ((n - L : Nat) : Int) := by rw [← hN0]; omega
                have HD := Lib.hid (show Dec l 10 0 0 [] from .long HH.out (by rw [HRl.out, ← HK.out]; exact hgt))
                have hck : ¬ c = L := by omega
                clear hN0
                have s0 := cell_of_row _ _ 0 _ _ _ HR3.out
                have s1 := cell_of_row _ _ 1 _ _ _ HR3.out
                have s2 := cell_of_row _ _ 2 _ _ _ HR3.out
                simp at s0 s1 s2
                have hf : ∀ j, y3.frozen? ⟨r, j, none⟩ = false := fun j => by simp [World.frozen?, HR3.out]
                have hf0 := hf 0
                have hf1 := hf 1
                have hf2 := hf 2
                clear hf
                go_wp2
                have hN := setRow_heap y3 r _ #[.int .i64 0, .int .i64 0, .slice none 0 0] _ _ HR3.out
                have HBN := Lib.hid (below_setRow (g := r) HB3.out (by have := HRW.out; omega) #[.int .i64 0, .int .i64 0, .slice none 0 0])
                rw [part3r HR3.out (.int .i64 0) (.int .i64 0) (.slice none 0 0)]
                exact bodyPost_ret (v := .tuple #[.agg #[.int .i64 0, .int .i64 0, .slice none 0 0], .int .i64 10]) (results_row2 (t := 52) Tryd.results24 rfl rfl hN Tryd.underlying52 rfl HI.out) rfl ⟨(10 : Nat), (0 : Nat), (0 : Nat), (0 : Nat), ([] : List UInt8), Value.slice none 0 0, HD.out, rfl, rfl, World.ownsRow_nil _ _ _ _, HBN.out⟩
            · obtain ⟨S, hS⟩ : ∃ S : ByteArray, S = ⟨(l.take L).toArray⟩ := ⟨_, rfl⟩
              rw [← hS] at hcv1
              have hne : (S.toList == T.toList) = false := by
                simp only [beq_eq_false_iff_ne, ne_eq]
                exact fun e => hfit (by rw [hS, HT.out, lst_is, lst_is] at e; exact e)
              have HPN := Lib.hid (HP2.out.next (fun r' hh' => hfit (by have := head_pre hh'; rwa [← HLL.out] at this)))
              clear hS hfit
              refine wp_region_held_drew (S := fun y => (convert 56 9 (.slice (some ⟨b, o, none⟩) L c)).run Tryd.prog y = .ok (.string S) y ∧ (convert 56 9 (.slice (some ⟨g, 0, none⟩) L k2)).run Tryd.prog y = .ok (.string T) y) (by kernel_rfl) (⟨hcv1, hcv2⟩) (fun hS0 => ?_)
              obtain ⟨y3, hy3⟩ : ∃ y, y2.drew = y := ⟨_, rfl⟩
              have HU4 := Lib.hid (show Below (r + 1) y0 y3 by rw [← hy3]; exact HU3.out.drew)
              have HL3 := Lib.hid (show BA y3 (some ⟨b, o, none⟩) n c l by rw [← hy3]; exact HLy.out.on (Below.refl _ y2).drew)
              rw [hy3] at hS0 ⊢
              clear hy3 hcv1 hcv2
              refine wpAnyH_take (i := 0) (v := ?_) rfl (by kernel_rfl) (by kernel_rfl) (by kernel_rfl) (fun _ _ _ h => h) (Or.inl ⟨by kernel_rfl, by (intro wz hSz; obtain ⟨cv1_, cv2_⟩ := hSz; go_simp; try with_reducible rfl)⟩) hS0 ?_
              go_simp
              refine wpAnyH_take (i := 1) (v := ?_) rfl (by kernel_rfl) (by kernel_rfl) (by kernel_rfl) (fun _ _ _ h => h) (Or.inl ⟨by kernel_rfl, by (intro wz hSz; obtain ⟨cv1_, cv2_⟩ := hSz; go_simp; try with_reducible rfl)⟩) hS0 ?_
              go_simp
              refine wpAnyH_take (i := 2) (v := ?_) rfl (by kernel_rfl) (by kernel_rfl) (by kernel_rfl) (fun _ _ _ h => h) (Or.inl ⟨by kernel_rfl, by (intro wz hSz; obtain ⟨cv1_, cv2_⟩ := hSz; go_simp; try with_reducible rfl)⟩) hS0 ?_
              go_simp
              refine wpAnyH_take (i := 3) (v := ?_) rfl (by kernel_rfl) (by kernel_rfl) (by kernel_rfl) (fun _ _ _ h => h) (Or.inl ⟨by kernel_rfl, by (intro wz hSz; obtain ⟨cv1_, cv2_⟩ := hSz; go_simp; try with_reducible rfl)⟩) hS0 ?_
              go_simp
              refine wpAnyH_take (i := 4) (v := ?_) rfl (by kernel_rfl) (by kernel_rfl) (by kernel_rfl) (fun _ _ _ h => h) (Or.inl ⟨by kernel_rfl, by (intro wz hSz; obtain ⟨cv1_, cv2_⟩ := hSz; go_simp; try with_reducible rfl)⟩) hS0 ?_
              go_simp
              refine wpAnyH_take (i := 5) (v := ?_) rfl (by kernel_rfl) (by kernel_rfl) (by kernel_rfl) (fun _ _ _ h => h) (Or.inl ⟨by kernel_rfl, by (intro wz hSz; obtain ⟨cv1_, cv2_⟩ := hSz; go_simp; try with_reducible rfl)⟩) hS0 ?_
              go_simp
              refine wpAnyH_take (i := 6) (v := ?_) rfl (by kernel_rfl) (by kernel_rfl) (by kernel_rfl) (fun _ _ _ h => h) (Or.inl ⟨by kernel_rfl, by (intro wz hSz; obtain ⟨cv1_, cv2_⟩ := hSz; go_simp; try with_reducible rfl)⟩) hS0 ?_
              go_simp
              refine wpAnyH_take (i := 7) (v := ?_) rfl (by kernel_rfl) (by kernel_rfl) (by kernel_rfl) (fun _ _ _ h => h) (Or.inl ⟨by kernel_rfl, by (intro wz hSz; obtain ⟨cv1_, cv2_⟩ := hSz; go_simp; try with_reducible rfl)⟩) hS0 ?_
              go_simp
              refine wpAnyH_take (i := 8) (v := ?_) rfl (by kernel_rfl) (by kernel_rfl) (by kernel_rfl) (fun _ _ _ h => h) (Or.inl ⟨by kernel_rfl, by (intro wz hSz; obtain ⟨cv1_, cv2_⟩ := hSz; go_simp; try with_reducible rfl)⟩) hS0 ?_
              go_simp
              refine wpAnyH_take (i := 9) (v := ?_) rfl (by kernel_rfl) (by kernel_rfl) (by kernel_rfl) (fun _ _ _ h => h) (Or.inl ⟨by kernel_rfl, by (intro wz hSz; obtain ⟨cv1_, cv2_⟩ := hSz; go_simp; try with_reducible rfl)⟩) hS0 ?_
              go_simp
              refine wpAnyH_take (i := 10) (v := ?_) rfl (by kernel_rfl) (by kernel_rfl) (by kernel_rfl) (fun _ _ _ h => h) (Or.inl ⟨by kernel_rfl, by (intro wz hSz; obtain ⟨cv1_, cv2_⟩ := hSz; go_simp; try with_reducible rfl)⟩) hS0 ?_
              go_simp
              refine wpAnyH_take (i := 11) (v := ?_) rfl (by kernel_rfl) (by kernel_rfl) (by kernel_rfl) (fun _ _ _ h => h) (Or.inl ⟨by kernel_rfl, by (intro wz hSz; obtain ⟨cv1_, cv2_⟩ := hSz; go_simp; try with_reducible rfl)⟩) hS0 ?_
              go_simp
              refine wpAnyH_take (i := 12) (v := ?_) rfl (by kernel_rfl) (by kernel_rfl) (by kernel_rfl) (fun _ _ _ h => h) (Or.inl ⟨by kernel_rfl, by (intro wz hSz; obtain ⟨cv1_, cv2_⟩ := hSz; go_simp; try with_reducible rfl)⟩) hS0 ?_
              go_simp
              refine wpAnyH_take (i := 13) (v := ?_) rfl (by kernel_rfl) (by kernel_rfl) (by kernel_rfl) (fun _ _ _ h => h) (Or.inl ⟨by kernel_rfl, by (intro wz hSz; obtain ⟨cv1_, cv2_⟩ := hSz; go_simp; try with_reducible rfl)⟩) hS0 ?_
              go_simp
              refine wpAnyH_take (i := 14) (v := ?_) rfl (by kernel_rfl) (by kernel_rfl) (by kernel_rfl) (fun _ _ _ h => h) (Or.inl ⟨by kernel_rfl, by (intro wz hSz; obtain ⟨cv1_, cv2_⟩ := hSz; go_simp; try with_reducible rfl)⟩) hS0 ?_
              go_simp
              refine wpAnyH_done (by kernel_rfl) ?_ _
              clear hS0
              go_wp2
              go_roundw
              case rel => exact ⟨hn_ + 1, by omega, by omega, by go_num, HPN, HU4⟩
              case measure => simp [intOf]; omega
          · have hLn' : n < L := by omega
            have HPN := Lib.hid (HP2.out.next (fun r' hh' => hLn (by have := head_pre hh'; rw [← HLL.out] at this; have := congrArg List.length this; rw [List.length_take, ← HLy.out.1, ← HLL.out] at this; omega)))
            go_quiet (fail)
            obtain ⟨y3, hy3⟩ : ∃ y, y2.drewN nq = y := ⟨_, rfl⟩
            have HU4 := Lib.hid (show Below (r + 1) y0 y3 by rw [← hy3]; exact drawnB HU3.out _)
            rw [hy3]
            clear hy3 hcv2
            go_wp2
            go_roundw
            case rel => exact ⟨hn_ + 1, by omega, by omega, by go_num, HPN, HU4⟩
            case measure => simp [intOf]; omega
        · obtain rfl : hn_ = 65 := by omega
          have HPN := Lib.hid HP2.out.row
          go_wp2
          go_roundw
          case rel => exact ⟨wn + 1, by omega, by omega, by go_num, HPN, HU2⟩
          case measure => simp [intOf]; omega
    · obtain rfl : wn = 65 := by omega
      have HR := Lib.hid ((HU.out.block r (by omega)).trans HR0.out)
      have HB := Lib.hid (HB0.out.trans (HU.out.mono (by have := HRW.out; omega)))
      have s0 := cell_of_row _ _ 0 _ _ _ HR.out
      have s1 := cell_of_row _ _ 1 _ _ _ HR.out
      have s2 := cell_of_row _ _ 2 _ _ _ HR.out
      simp at s0 s1 s2
      have hf : ∀ j, wr.frozen? ⟨r, j, none⟩ = false := fun j => by simp [World.frozen?, HR.out]
      have hf0 := hf 0
      have hf1 := hf 1
      have hf2 := hf 2
      clear hf
      go_wp2
      have hN := setRow_heap wr r _ #[.int .i64 0, .int .i64 0, .slice none 0 0] _ _ HR.out
      have HBN := Lib.hid (below_setRow (g := r) HB.out (by have := HRW.out; omega) #[.int .i64 0, .int .i64 0, .slice none 0 0])
      rw [part3r HR.out (.int .i64 0) (.int .i64 0) (.slice none 0 0)]
      exact bodyPost_ret (v := .tuple #[.agg #[.int .i64 0, .int .i64 0, .slice none 0 0], .int .i64 10]) (results_row2 (t := 52) Tryd.results24 rfl rfl hN Tryd.underlying52 rfl HI.out) rfl ⟨(10 : Nat), (0 : Nat), (0 : Nat), (0 : Nat), ([] : List UInt8), Value.slice none 0 0, .form hm (fun w' h' r' hh => by rcases HP.out w' h' r' hh with h1 | ⟨h1, h2⟩ <;> (have := hh.2.2.1; omega)), rfl, rfl, World.ownsRow_nil _ _ _ _, HBN.out⟩

end Go.Proofs.YtcohehekkeeeoaaDoor.Pg
