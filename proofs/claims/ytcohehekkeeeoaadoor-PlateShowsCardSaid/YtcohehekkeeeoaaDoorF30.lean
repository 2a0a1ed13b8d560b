/- Layer 21 (plate): a file's picture, by the program. -/
import Derived.Test.YtcohehekkeeeoaaDoorF24
import Derived.Test.YtcohehekkeeeoaaDoorF26
import Derived.Test.YtcohehekkeeeoaaDoorF28
import Derived.Test.YtcohehekkeeeoaaDoorF29
import Derived.Deep.AppendLies
import Derived.Maps.AppendAt
import Derived.Sort.CutIn
namespace Go.Proofs.YtcohehekkeeeoaaDoor.Pg
open Go Go.RowKit Go.Shelf Go.Proofs.YtcohehekkeeeoaaDoor Go.Proofs.YtcohehekkeeeoaaDoor.Re Go.Proofs.YtcohehekkeeeoaaDoor.Au
set_option linter.unusedVariables false
set_option linter.unusedSimpArgs false

attribute [local go_sem] Oper.semAt_some

theorem own_slice {w : World} {base n c : Nat} {e : TypeId} {v : Value} {xs : List Value} (h : w.ownsRow base e c v n xs) : ∃ a cap, v = .slice a n cap := by
  rcases h.2 with ⟨rfl, h0⟩ | ⟨q, cap, cur, rfl, -⟩
  · exact ⟨none, 0, by rw [h0]⟩
  · exact ⟨_, _, rfl⟩

theorem own_via {w w' : World} {base n c : Nat} {e : TypeId} {v : Value} {xs : List Value} (h : w.ownsRow base e c v n xs) (hk : ∀ q, v.ownBlock = some q → w'.heap[q]? = w.heap[q]?) : w'.ownsRow base e c v n xs := by
  refine ⟨h.1, ?_⟩
  rcases h.2 with hn | ⟨g, cap, cur, hv, hb, hg, rest⟩
  · exact .inl hn
  · exact .inr ⟨g, cap, cur, hv, hb, (hk g (by rw [hv]; rfl)).trans hg, rest⟩

theorem ownsRow_le_ {w : World} {base b2 n c : Nat} {e : TypeId} {v : Value} {xs : List Value} (h : w.ownsRow base e c v n xs) (hb : b2 ≤ base) : w.ownsRow b2 e c v n xs :=
  ⟨h.1, h.2.elim Or.inl (fun ⟨g, cap, cur, hv, hg, r⟩ => Or.inr ⟨g, cap, cur, hv, Nat.le_trans hb hg, r⟩)⟩

theorem own_cells {w : World} {base n c : Nat} {e : TypeId} {v : Value} {xs : List Value} (h : w.ownsRow base e c v n xs) : ∀ q o, v.ownBlock = some q → w.heap[q]? = some o → o.isCells = true := fun q o hq ho => by
  rcases h.2 with ⟨rfl, h0⟩ | ⟨g, cap, cur, rfl, _, hg, _⟩
  · cases hq
  · cases hq
    rw [hg] at ho
    cases ho
    rfl

theorem info3 : (Tryd.prog.info? 69).map (fun i => (i.zero, i.size, i.bytes)) = some (some (.agg #[.int .u8 0, .int .u8 0, .int .u8 0]), 3, 3) := by kernel_rfl

theorem arr3 (a : Addr) (c : Nat) (W : World) : (Instr.arrayAt 69 (.slice (some a) 3 c)).run Tryd.prog W = .ok (.pointer (some a)) W := by
  have hu : Tryd.prog.underlying 69 = some (.array 3 5) := by kernel_rfl
  simp [Instr.arrayAt, run_underlying hu]

/-- a dot's bytes -/
def pc (D : List UInt8) (i : Nat) : List UInt8 := [D.getD (i * 3) 0, D.getD (i * 3 + 1) 0, D.getD (i * 3 + 2) 0]

def fl {K : Nat} (D : List UInt8) (pre : List (Fin K)) : List UInt8 := (pre.map fun i => pc D i.val).flatten

theorem fl_snoc {K : Nat} (D : List UInt8) (pre : List (Fin K)) (i : Fin K) : fl D (pre ++ [i]) = fl D pre ++ pc D i.val := by simp [fl]

theorem vals_inj {l m : List UInt8} (h : vals l = vals m) : l = m := by
  unfold vals at h
  refine (List.map_inj_right (fun a b e => ?_)).1 h
  simp at e
  exact UInt8.toNat_inj.1 (by omega)

theorem fl_all {K : Nat} {D : List UInt8} (hD : D.length = 3 * K) : ∀ k, k ≤ K → fl D (fs K k) = D.take (k * 3)
  | 0, _ => by simp [fl, fs]
  | k + 1, h => by
    rw [fs_succ (by omega), fl_snoc, fl_all hD k (by omega)]
    apply vals_inj
    rw [take3 (by omega), vals_append]
    rfl

theorem vals_pc (D : List UInt8) (i : Nat) : vals (pc D i) = [.int .u8 (bn D (i * 3) : Nat), .int .u8 (bn D (i * 3 + 1) : Nat), .int .u8 (bn D (i * 3 + 2) : Nat)] := rfl

set_option maxHeartbeats 4000000 in
set_option maxRecDepth 100000 in
theorem decode_ok (a : Option Addr) (n c : Nat) (l : List UInt8) (w : World) (hl : BA w a n c l) (hn : n ≤ 140737488351232) (h3 : 3 ≤ n) (hm : l.take 3 = [80, 54, 10]) (m m2 : Nat) (r1 r2 : List UInt8) (hs : sideR 0 0 (l.drop 3) 32 = some (m, r1)) (hs2 : sideR 0 0 r1 10 = some (m2, r2)) (hok : Fm.okSz (m : Int) (m2 : Int)) (h4 : 4 ≤ r2.length) (hd : r2.take 4 = [50, 53, 53, 10]) (K : Nat) (hK : K = m * m2) (hl3 : r2.length - 4 = 3 * K) : Calls Tryd.prog 23 #[.slice a n c] w fun e' w' => ∃ v, e' = .returned (.tuple #[.agg #[.int .i64 m, .int .i64 m2, v], .int .i64 0]) ∧ w'.ownsRow w.heap.size 69 3 v K (vals (r2.drop 4)) ∧ Below w.heap.size w w' := by
  have HL := Lib.hid hl
  have HLN := Lib.hid hl.1
  have HOK := Lib.hid hok
  have HKK := Lib.hid hK
  have HL3 := Lib.hid hl3
  clear hl hok hK hl3
  refine (callsIn_wide (n := 6)).1 ?_
  have f1 : Fence.wide.fn 54 := trivial
  have f2 : Fence.wide.fn 55 := trivial
  have f3 : Fence.wide.fn 48 := trivial
  have f4 : Fence.wide.fn 37 := trivial
  have f5 : Fence.wide.fn 56 := trivial
  refine callsIn_of_wp_marks Tryd.func23 rfl trivial ?_ rfl
  simp only [Tryd.ntmps23, List.size_toArray, List.length_cons, List.length_nil, Nat.reduceAdd, Nat.reduceSub, Array.replicate_succ, Array.replicate_zero, List.push_toArray, List.append_toArray, List.nil_append, List.cons_append]
  gi_upto_region 1 with fail
  have hr0 := heap_alloc_last w (.cells #[.int .i64 0, .int .i64 0, .slice none 0 0] 44)
  have hb0 := Ve.below_n1 w (.cells #[.int .i64 0, .int .i64 0, .slice none 0 0] 44)
  obtain ⟨y0, hy0⟩ : ∃ y0, w.alloc (.cells #[.int .i64 0, .int .i64 0, .slice none 0 0] 44) = y0 := ⟨_, rfl⟩
  obtain ⟨r, hr⟩ : ∃ r, r = w.heap.size := ⟨_, rfl⟩
  rw [hy0] at hr0 hb0 ⊢
  rw [← hr] at hr0 ⊢
  have HRW := Lib.hid hr
  clear hy0 hr
  have HB0 := Lib.hid hb0
  have HL0 := Lib.hid (HL.out.on hb0)
  have hlt0 := lt_heap hr0
  have HR0 := Lib.hid hr0
  have HI := Lib.hid (show (Tryd.prog.info? 44).map (·.size) = some 3 by kernel_rfl)
  clear hb0 hr0
  gi_upto_region 2 with (gi_at_call 54; refine (callsIn_wide.2 (without_yes a n c l [80, 54, 10] 3 y0 HL0.out rfl h3 (by omega) (by omega) hn hm)).mono ?_; rintro e y1 ⟨⟨a1, rfl, hB1⟩, rfl⟩)
  have HL1 := Lib.hid hB1
  clear hB1
  gi_upto_region 5 with (gi_at_call 55; refine (callsIn_wide.2 (size_yes a1 (n - 3) (c - 3) (l.drop 3) y0 HL1.out (by omega) m m2 r1 r2 hs hs2)).mono ?_; rintro e y2 ⟨⟨a2, n2, c2_, rfl, hB2⟩, hb2⟩)
  have HL2 := Lib.hid (hB2 y2 (HL1.out.on hb2))
  have hn2 : n2 ≤ 100000 := by
    have q0 := (hB2 y2 (HL1.out.on hb2)).1
    have q1 := HL3.out
    have q2 := (Fm.okSz_mul HOK.out).2
    have q3 := HKK.out
    have q4 : (K : Int) = (m : Int) * (m2 : Int) := by rw [q3]; simp
    omega
  have HB2 := Lib.hid (HB0.out.trans (hb2.mono HB0.out.size))
  have hr2 := (hb2.block _ hlt0).trans HR0.out
  have hlt2 := lt_heap hr2
  have HR2 := Lib.hid hr2
  clear hr2
  have hb3 := Ve.below_n1 y2 (.cells #[.int .i64 m, .int .i64 m2] 33)
  have hp3 := heap_alloc_last y2 (.cells #[.int .i64 m, .int .i64 m2] 33)
  have HL3' := Lib.hid (HL2.out.on hb3)
  clear hB2 hb2
  obtain ⟨y3, hy3⟩ : ∃ y3, y2.alloc (.cells #[.int .i64 m, .int .i64 m2] 33) = y3 := ⟨_, rfl⟩
  obtain ⟨p, hp⟩ : ∃ p, p = y2.heap.size := ⟨_, rfl⟩
  rw [hy3] at hb3 hp3 HL3' ⊢
  rw [← hp] at hp3 ⊢
  have hrp : r < p := by omega
  clear hy3 hp
  have HB3 := Lib.hid (HB2.out.trans (hb3.mono HB2.out.size))
  have hr3 := (hb3.block _ hlt2).trans HR2.out
  have hlt3 := lt_heap hr3
  have HR3 := Lib.hid hr3
  clear hr3
  have HP3 := Lib.hid hp3
  have q0 := cell_of_row _ _ 0 _ _ _ hp3
  have q1 := cell_of_row _ _ 1 _ _ _ hp3
  simp at q0 q1
  have hltp := lt_heap hp3
  clear hb3 hp3 hlt2
  gi_upto_region 7 with (gi_at_call 48; refine (callsIn_wide.2 (szright_t (m : Int) (m2 : Int) HOK.out _)).mono ?_; rintro e y4 ⟨rfl, hb4⟩)
  have HB4 := Lib.hid (HB3.out.trans (hb4.mono HB3.out.size))
  have hr4 := (hb4.block _ hlt3).trans HR3.out
  have hlt4 := lt_heap hr4
  have HR4 := Lib.hid hr4
  clear hr4
  have HL4 := Lib.hid (HL3'.out.on hb4)
  have hp4 := (hb4.block _ hltp).trans HP3.out
  have hltp4 := lt_heap hp4
  have HP4 := Lib.hid hp4
  clear hb4 q0 q1 hltp
  have q0 := cell_of_row _ _ 0 _ _ _ hp4
  have q1 := cell_of_row _ _ 1 _ _ _ hp4
  simp at q0 q1
  clear hp4
  gi_upto_region 10 with (gi_at_call 54; refine (callsIn_wide.2 (without_yes a2 n2 c2_ r2 [50, 53, 53, 10] 4 y4 HL4.out rfl (by have := HL4.out.1; omega) (by omega) (by omega) (by omega) hd)).mono ?_; rintro e y5 ⟨⟨a5, rfl, hB5⟩, rfl⟩)
  have HL5 := Lib.hid hB5
  clear hB5
  obtain ⟨n5, hn5⟩ : ∃ n5, n5 = n2 - 4 := ⟨_, rfl⟩
  obtain ⟨c5, hc5⟩ : ∃ c5, c5 = c2_ - 4 := ⟨_, rfl⟩
  rw [← hn5, ← hc5] at HL5
  rw [← hn5, ← hc5]
  have HN5 := Lib.hid (show n5 = 3 * K by have := HL4.out.1; have := HL3.out; omega)
  have hn5b : n5 ≤ 100000 := by omega
  clear hn5 hc5
  obtain ⟨M, hM⟩ : ∃ M : Int, M = (m : Int) * (m2 : Int) := ⟨_, rfl⟩
  have HMM := Lib.hid hM
  have hM1 : 1 ≤ M := by have := (Fm.okSz_mul HOK.out).1; omega
  have hM2 : M ≤ 4096 := by have := (Fm.okSz_mul HOK.out).2; omega
  clear hM
  have hMn : (n5 : Int) = 3 * M := by
    have q3 := HKK.out
    have q4 : (K : Int) = (m : Int) * (m2 : Int) := by rw [q3]; simp
    have q5 := HN5.out
    have q6 := HMM.out
    omega
  gi_upto_region 11 with (gi_at_call 37; refine (callsIn_wide.2 ((show Calls _ _ _ _ (fun e w' => e = .returned (.int .i64 M) ∧ Below _ _ w') from by rw [HMM.out]; exact Fm.pix_ok (m : Int) (m2 : Int) HOK.out _))).mono ?_; rintro e y6 ⟨rfl, hb6⟩)
  have HB6 := Lib.hid (HB4.out.trans (hb6.mono HB4.out.size))
  have hr6 := (hb6.block _ hlt4).trans HR4.out
  have hlt6 := lt_heap hr6
  have HR6 := Lib.hid hr6
  clear hr6
  have HL6 := Lib.hid (HL5.out.on hb6)
  have hp6 := (hb6.block _ hltp4).trans HP4.out
  clear hb6 q0 q1
  have q0 := cell_of_row _ _ 0 _ _ _ hp6
  have q1 := cell_of_row _ _ 1 _ _ _ hp6
  simp at q0 q1
  have hltp6 := lt_heap hp6
  clear hp6
  have hg1 : ¬ (n5 : Int) < 3 * M := by omega
  have hg2 : ¬ 3 * M < (n5 : Int) := by omega
  have HG := Lib.hid hMn
  clear hMn
  gi_upto_region 16 with fail
  have hb7 := Ve.below_n1 y6 (.cells #[.int .i64 m, .int .i64 m2, .slice none 0 0] 44)
  have hd7 := heap_alloc_last y6 (.cells #[.int .i64 m, .int .i64 m2, .slice none 0 0] 44)
  have hs7 : (y6.alloc (.cells #[.int .i64 m, .int .i64 m2, .slice none 0 0] 44)).heap.size = y6.heap.size + 1 := by simp
  have HL7 := Lib.hid (HL6.out.on hb7)
  obtain ⟨y7, hy7⟩ : ∃ y7, y6.alloc (.cells #[.int .i64 m, .int .i64 m2, .slice none 0 0] 44) = y7 := ⟨_, rfl⟩
  obtain ⟨d, hdd⟩ : ∃ d, d = y6.heap.size := ⟨_, rfl⟩
  rw [hy7] at hb7 hd7 hs7 HL7 ⊢
  rw [← hdd] at hd7 hs7 ⊢
  have hrd : r < d := by omega
  have HDS := Lib.hid hdd
  clear hy7 hdd
  have HB7 := Lib.hid (HB6.out.trans (hb7.mono HB6.out.size))
  have hr7 := (hb7.block _ hlt6).trans HR6.out
  have hlt7 := lt_heap hr7
  have HR7 := Lib.hid hr7
  clear hr7
  have HD7 := Lib.hid hd7
  clear hb7 hd7 q0 q1
  gi_upto_region 17 with (gi_at_call 56; refine (chunk_any _ a5 n5 c5 y7).mono ?_; rintro e w' ⟨rfl, rfl⟩)
  have hK0 : 0 < n5 := by omega
  obtain ⟨ad, ha5, hc0⟩ := HL7.out.byte hK0
  obtain ⟨b, o, sp⟩ := ad
  have hsp : sp = none := by simpa [Addr.add] using World.cell?_spot hc0
  subst hsp ha5
  obtain ⟨D, hD⟩ : ∃ D, D = r2.drop 4 := ⟨_, rfl⟩
  rw [← hD] at HL7
  have HDD := Lib.hid hD
  have hDl : D.length = 3 * K := by rw [hD, List.length_drop]; exact HL3.out
  clear hc0 hD
  have hcap : n5 ≤ c5 := HL7.out.2.1
  have hb9 := Ve.below_n2 y7 (.cells #[.slice (some ⟨b, o, none⟩) n5 c5] 56) (.cells #[.int .i64 3] 3)
  have hr9 := rows2 y7 (.cells #[.slice (some ⟨b, o, none⟩) n5 c5] 56) (.cells #[.int .i64 3] 3)
  have hs9 : ((y7.alloc (.cells #[.slice (some ⟨b, o, none⟩) n5 c5] 56)).alloc (.cells #[.int .i64 3] 3)).heap.size = d + 3 := by simp [hs7]
  rw [hs7] at hr9
  obtain ⟨y9, hy9⟩ : ∃ y9, (y7.alloc (.cells #[.slice (some ⟨b, o, none⟩) n5 c5] 56)).alloc (.cells #[.int .i64 3] 3) = y9 := ⟨_, rfl⟩
  rw [hy9] at hb9 hr9 hs9 ⊢
  clear hy9
  have k1 := cell_of_row _ _ 0 _ _ _ hr9.1
  have k2 := cell_of_row _ _ 0 _ _ _ hr9.2
  simp at k1 k2
  have hd9 := (hb9.block d (by omega)).trans HD7.out
  have HR9 := Lib.hid ((hb9.block r (by omega)).trans HR7.out)
  have HB9 := Lib.hid (HB7.out.trans (hb9.mono HB7.out.size))
  have HL9 := Lib.hid (HL7.out.on hb9)
  clear hb9 hr9
  obtain ⟨i0, hi, hz0, hz1, hz2⟩ := info_parts info3
  refine wpIn_rangeFunc_ownF rfl (by omega) (gf := 73) (lb := #[.pointer (some ⟨d + 1, 0, none⟩), .pointer (some ⟨d + 1 + 1, 0, none⟩)]) rfl trivial (enters_of Tryd.func73 (by kernel_rfl) rfl)
    (chunk_stops 5 (by omega) (d + 1) (d + 1 + 1) ⟨b, o, none⟩ c5 K n5 HN5.out hcap hn5b y9 k1 k2) Kb.t (Kb.b (by omega) (by omega)) (Below.refl _ _) (fun _ => rfl)
    (fun pre W => ∃ v, W.heap[d]? = some (.cells #[.int .i64 m, .int .i64 m2, v] 44 (0, 0)) ∧ W.ownsRow (d + 3) 69 3 v pre.length (vals (fl D pre)) ∧ Aw (fun k => k < d + 3 ∧ k ≠ d) y9 W)
    (fun _ _ _ => False) ?hI (fun _ _ _ _ _ hs _ _ => hs) ⟨.slice none 0 0, hd9, World.ownsRow_nil _ _ _ _, Aw.refl _ _⟩ ?a1 ?assign ?body ?done ?stop
  case hI =>
    rintro pre W W' row ⟨v, h1, h2, h3⟩ hg hr
    rw [hs9] at hr
    refine ⟨v, (hg.block d (lt_heap h1) (fun e => by have := (hr d e.symm).1; omega)).trans h1, h2.kept hg ?_, h3.step hg (fun q hq => by have := (hr q hq).1; omega)⟩
    rcases hv : v.ownBlock with _ | q
    · exact .inl rfl
    · right
      intro e
      obtain ⟨-, ob, hob, hoc⟩ := hr q e.symm
      rw [own_cells h2 q ob hv hob] at hoc
      cases hoc
  case assign =>
    intro l x W K' hK
    gi_wp2
    exact hK
  case body =>
    rintro lr pre x W ⟨v, hdW, hown, hA⟩ hpre
    obtain ⟨av, cv, hv⟩ := own_slice hown
    subst hv
    have hbd : b < d := by
      obtain ⟨ad', hae, hce⟩ := HL6.out.byte hK0
      cases hae
      have := World.block_lt_of_cell? _ _ hce
      rw [add_at] at this
      simpa [HDS.out] using this
    obtain ⟨i, hxi⟩ : ∃ i, i = x.val := ⟨_, rfl⟩
    have hiK : i < K := by rw [hxi]; exact x.isLt
    obtain ⟨q, hq⟩ : ∃ q, q = o + 3 * x.val := ⟨_, rfl⟩
    have hcl : ∀ j, j < 3 → W.cell? ⟨b, q + j, none⟩ = some (.int .u8 (bn D (i * 3 + j) : Nat)) := fun j hj => by
      obtain ⟨ad', hae, hce⟩ := HL9.out.byte (k := i * 3 + j) (by have := HN5.out; omega)
      cases hae
      rw [add_at, show o + (i * 3 + j) = q + j by rw [hq, ← hxi]; omega] at hce
      rw [hA.cell (p := ⟨b, q + j, none⟩) ⟨by show b < d + 3; omega, by show b ≠ d; omega⟩ (World.block_lt_of_cell? _ _ hce)]
      exact hce
    have e0 := hcl 0 (by omega)
    have e1 := hcl 1 (by omega)
    have e2 := hcl 2 (by omega)
    simp only [Nat.add_zero] at e0
    obtain ⟨z0, hz0_⟩ : ∃ z : Int, z = ((bn D (i * 3) : Nat) : Int) := ⟨_, rfl⟩
    obtain ⟨z1, hz1_⟩ : ∃ z : Int, z = ((bn D (i * 3 + 1) : Nat) : Int) := ⟨_, rfl⟩
    obtain ⟨z2, hz2_⟩ : ∃ z : Int, z = ((bn D (i * 3 + 2) : Nat) : Int) := ⟨_, rfl⟩
    rw [← hz0_] at e0
    rw [← hz1_] at e1
    rw [← hz2_] at e2
    have HX := Lib.hid (show vals (fl D (pre ++ [x])) = vals (fl D pre) ++ [.int .u8 z0, .int .u8 z1, .int .u8 z2] by rw [fl_snoc, vals_append, vals_pc, ← hxi, ← hz0_, ← hz1_, ← hz2_])
    obtain ⟨L, hL⟩ : ∃ L, L = pre.length := ⟨_, rfl⟩
    rw [← hL] at hown hpre hdW
    have HLL := Lib.hid hL
    have hKb : K ≤ 5000 := by
      have q3 := HKK.out
      have q4 : (K : Int) = (m : Int) * (m2 : Int) := by rw [q3]; simp
      have q6 := HMM.out
      omega
    have hA3 : (⟨b, o, none⟩ : Addr).add (3 * x.val) = ⟨b, q, none⟩ := by rw [add_at, hq]
    rw [← hq]
    try rw [hA3]
    clear hA3 hq hxi hcl hz0_ hz1_ hz2_ hL
    have HO := Lib.hid hown
    have HA := Lib.hid hA
    have hs9W := hA.size
    rw [hs9] at hs9W
    clear hown hA
    have harr := fun W => arr3 ⟨b, q, none⟩ 3 W
    gi_upto_region 18 with fail
    refine Rf.way_round (S := fun y => y.heap[d]? = some (.cells #[.int .i64 m, .int .i64 m2, .slice av L cv] 44 (0, 0)) ∧ y.cell? ⟨b, q, none⟩ = some (.int .u8 z0) ∧ y.cell? ⟨b, q + 1, none⟩ = some (.int .u8 z1) ∧ y.cell? ⟨b, q + 2, none⟩ = some (.int .u8 z2)) (stop := 8) (by kernel_rfl) (by kernel_rfl) (by rintro ⟨aa, ww, hh⟩; exact hh) ⟨hdW, e0, e1, e2⟩ (fun hS0 => ?_)
    obtain ⟨w0, hw0⟩ : ∃ y, W.drew = y := ⟨_, rfl⟩
    have HO0 := Lib.hid (show w0.ownsRow (d + 3) 69 3 (.slice av L cv) L (vals (fl D pre)) by rw [← hw0]; exact Ls.own_below HO.out (Below.refl _ W).drew)
    have HA0 := Lib.hid (show Aw (fun k => k < d + 3 ∧ k ≠ d) W w0 by rw [← hw0]; exact Aw.of (Below.refl _ W).drew)
    have HKO0 := Lib.hid (show KeepsOthers W w0 by rw [← hw0]; exact KeepsOthers.drew W)
    have hs0 : d + 3 ≤ w0.heap.size := by rw [← hw0]; exact hs9W
    rw [hw0] at hS0 ⊢
    clear hw0 e0 e1 e2 hdW hs9W
    refine Ol.way_plain (i := 0) (v := ?_) rfl (by kernel_rfl) (by kernel_rfl) (by kernel_rfl) (fun _ _ _ h => h) (by decide) (Or.inl ⟨by kernel_rfl, by (intro wz _; go_simp; try with_reducible rfl)⟩) (Ol.on hS0) ?_
    go_simp
    refine Ol.way_take (i := 1) (v := ?_) rfl (by kernel_rfl) (by kernel_rfl) (by kernel_rfl) (fun _ _ _ h => h) (by decide) (by kernel_rfl) (by kernel_rfl) (Or.inl ⟨by kernel_rfl, by (intro wz hSz; have cq_ := cell_of_row _ _ 2 _ _ _ hSz.1; simp at cq_; go_simp; try with_reducible rfl)⟩) hS0 ?_
    go_simp
    refine Ol.way_plain (i := 2) (v := ?_) rfl (by kernel_rfl) (by kernel_rfl) (by kernel_rfl) (fun _ _ _ h => h) (by decide) (Or.inl ⟨by kernel_rfl, by (intro wz _; go_simp; try with_reducible rfl)⟩) (Ol.on hS0) ?_
    go_simp
    refine Ol.way_plain (i := 3) (v := ?_) rfl (by kernel_rfl) (by kernel_rfl) (by kernel_rfl) (fun _ _ _ h => h) (by decide) (Or.inl ⟨by kernel_rfl, by (intro wz _; go_simp; try with_reducible rfl)⟩) (Ol.on hS0) ?_
    go_simp
    refine Ol.way_take (i := 4) (v := ?_) rfl (by kernel_rfl) (by kernel_rfl) (by kernel_rfl) (fun _ _ _ h => h) (by decide) (by kernel_rfl) (by kernel_rfl) (Or.inl ⟨by kernel_rfl, by (intro wz hSz; obtain ⟨cq0_, cq1_, cq2_⟩ := hSz.2; go_simp; try with_reducible rfl)⟩) hS0 ?_
    go_simp
    refine Ol.way_ready (rs := [5]) (by kernel_rfl) (by simp) ?_
    refine Ol.Each.cons rfl (fun K hK => ?_) Ol.Each.nil
    go_simp
    have hb1 := Ve.below_n1 w0 (.cells #[.int .u8 z0, .int .u8 z1, .int .u8 z2] 69)
    have HC := Lib.hid (cells3 w0 (.int .u8 z0) (.int .u8 z1) (.int .u8 z2) 69)
    have HO1 := Lib.hid (Ls.own_below HO0.out hb1)
    have HA1 := Lib.hid (HA0.out.trans (Aw.of hb1))
    have HKO1 := Lib.hid (HKO0.out.trans (KeepsOthers.alloc w0 (.cells #[.int .u8 z0, .int .u8 z1, .int .u8 z2] 69)))
    have hS1' : (w0.alloc (.cells #[.int .u8 z0, .int .u8 z1, .int .u8 z2] 69)).heap[d]? = some (.cells #[.int .i64 m, .int .i64 m2, .slice av L cv] 44 (0, 0)) ∧ (w0.alloc (.cells #[.int .u8 z0, .int .u8 z1, .int .u8 z2] 69)).cell? ⟨b, q, none⟩ = some (.int .u8 z0) ∧ (w0.alloc (.cells #[.int .u8 z0, .int .u8 z1, .int .u8 z2] 69)).cell? ⟨b, q + 1, none⟩ = some (.int .u8 z1) ∧ (w0.alloc (.cells #[.int .u8 z0, .int .u8 z1, .int .u8 z2] 69)).cell? ⟨b, q + 2, none⟩ = some (.int .u8 z2) :=
      ⟨(hb1.block d (by omega)).trans hS0.1, old1 _ hS0.2.1, old1 _ hS0.2.2.1, old1 _ hS0.2.2.2⟩
    have hs1 : (w0.alloc (.cells #[.int .u8 z0, .int .u8 z1, .int .u8 z2] 69)).heap.size = w0.heap.size + 1 := by simp
    obtain ⟨h, hh⟩ : ∃ h, h = w0.heap.size := ⟨_, rfl⟩
    obtain ⟨w1, hw1⟩ : ∃ w1, w0.alloc (.cells #[.int .u8 z0, .int .u8 z1, .int .u8 z2] 69) = w1 := ⟨_, rfl⟩
    rw [hw1] at HC HO1 HA1 HKO1 hS1' hs1 ⊢
    rw [← hh] at HC hs1 ⊢
    have hhd : d + 3 ≤ h := by omega
    clear hw1 hh hb1
    refine Ol.keep hK _ _ hS1' (fun hS1 => ?_)
    clear hK K hS1' hS0
    refine Ol.way_ready (rs := [6]) (by kernel_rfl) (by simp) ?_
    refine Ol.Each.cons rfl (fun K hK => ?_) Ol.Each.nil
    refine step_append_lies _ rfl _ _ 42 rfl (d + 3) 69 i0 (.agg #[.int .u8 0, .int .u8 0, .int .u8 0]) 3 3 Tryd.underlying42 hi hz0 hz1 hz2 rfl (by decide) _ _ _ rfl HO1.out ⟨h, 0, none⟩ 1 1 [.int .u8 z0, .int .u8 z1, .int .u8 z2] rfl rfl ?c1 ?c2 (by omega) ?c3 ?c4 ?c5 _ rfl ?_
    case c1 => exact HC.out
    case c2 => intro u hu; simp at hu; rcases hu with rfl | rfl | rfl <;> rfl
    case c3 => unfold maxLen; omega
    case c4 => omega
    case c5 => omega
    intro g9 cg w2 ho2 hg2_ hgk hlt2
    have hg2 : w1.grownBy w2 (Value.slice av L cv).ownBlock := hg2_
    have hqo := fun r hr => (HO1.out.lt r hr).1
    have hgd : d + 3 ≤ g9 := by
      rcases hgk with h_ | h_
      · exact hqo _ h_
      · have : w1.heap.size = g9 := h_.symm
        omega
    have HKO2 := Lib.hid (HKO1.out.trans (KeepsOthers.of_grownBy hg2 (fun j ob e ho => own_cells HO1.out j ob e ho)))
    have HA2 := Lib.hid (HA1.out.step hg2 (fun r hr => by have := hqo r hr; omega))
    rw [← HX.out] at ho2
    have hd2 := (hg2.block d (lt_heap hS1.1) (fun e => by have := hqo _ e.symm; omega)).trans hS1.1
    have hbb : w2.heap[b]? = w1.heap[b]? := hg2.block b (World.block_lt_of_cell? w1 _ hS1.2.1) (fun e => by have := hqo _ e.symm; omega)
    have hS2' : w2.heap[d]? = some (.cells #[.int .i64 m, .int .i64 m2, .slice av L cv] 44 (0, 0)) ∧ w2.cell? ⟨b, q, none⟩ = some (.int .u8 z0) ∧ w2.cell? ⟨b, q + 1, none⟩ = some (.int .u8 z1) ∧ w2.cell? ⟨b, q + 2, none⟩ = some (.int .u8 z2) :=
      ⟨hd2, (World.cell?_of_block (w := w1) (a := ⟨b, q, none⟩) hbb).trans hS1.2.1, (World.cell?_of_block (w := w1) (a := ⟨b, q + 1, none⟩) hbb).trans hS1.2.2.1, (World.cell?_of_block (w := w1) (a := ⟨b, q + 2, none⟩) hbb).trans hS1.2.2.2⟩
    refine Ol.keep hK _ _ hS2' (fun hS2 => ?_)
    clear hK K hS2' hg2_ hg2 hgk hbb HC HO1 HO0 hS1
    refine Ol.way_plain (i := 7) (v := ?_) rfl (by kernel_rfl) (by kernel_rfl) (by kernel_rfl) (fun _ _ _ h => h) (by decide) (Or.inl ⟨by kernel_rfl, by (intro wz _; go_simp; try with_reducible rfl)⟩) (Ol.on hS2) ?_
    go_simp
    refine Ol.way_ready (rs := [8]) (by kernel_rfl) (by simp) ?_
    refine Ol.Each.cons rfl (fun K hK => ?_) Ol.Each.nil
    have p0 := cell_of_row _ _ 2 _ _ _ hd2
    simp at p0
    have fz : ∀ j, w2.frozen? ⟨d, j, none⟩ = false := fun j => by simp [World.frozen?, hd2]
    go_simp
    clear fz p0
    have hN : (w2.setCell ⟨d, 2, none⟩ (.slice (some ⟨g9, 0, none⟩) (L + 1) cg)).heap[d]? = some (.cells #[.int .i64 m, .int .i64 m2, .slice (some ⟨g9, 0, none⟩) (L + 1) cg] 44 (0, 0)) := heap_setCell_same _ _ 2 _ _ _ hd2
    have HA4 := Lib.hid (HA2.out.set (b := d) (fun h => h.2 rfl) 2 (.slice (some ⟨g9, 0, none⟩) (L + 1) cg))
    have HO4 := Lib.hid (own_via (w' := (w2.setCell ⟨d, 2, none⟩ (.slice (some ⟨g9, 0, none⟩) (L + 1) cg))) ho2 (fun r hr => Below.heap_setCell _ _ _ _ (by simp [Value.ownBlock] at hr; show r ≠ d; omega)))
    have HK4 := Lib.hid (HKO2.out.trans (KeepsOthers.setCell w2 ⟨d, 2, none⟩ (.slice (some ⟨g9, 0, none⟩) (L + 1) cg)))
    have hl1 : (pre ++ [x]).length = L + 1 := by rw [List.length_append, HLL.out]; rfl
    refine Ol.past hK (by kernel_rfl) _ _ ?_
    clear hK K
    refine Ol.way_done (by kernel_rfl) ?_ _
    refine ⟨HK4.out, fun k hk hkl => HA4.out.block k ⟨by omega, by omega⟩ hkl, _, hN, ?_, HA.out.trans HA4.out⟩
    rw [hl1]
    exact HO4.out
  case done =>
    rintro D' ys W hD' rfl ⟨v, hdW, hown, hA⟩ hK
    obtain ⟨av, cv, hv⟩ := own_slice hown
    subst hv
    rw [fl_all hDl K (Nat.le_refl _), List.take_of_length_le (by omega), fs_len (Nat.le_refl _)] at hown
    rw [fs_len (Nat.le_refl _)] at hdW
    have hrW := (hA.block r ⟨by omega, by omega⟩ (lt_heap HR9.out)).trans HR9.out
    have hKD : W.heap.size ≤ W.heap.size := Nat.le_refl _
    have hBW : Below w.heap.size w W := HB9.out.trans (hA.below (fun k hk => ⟨by have := HRW.out; omega, by have := HRW.out; omega⟩) HB9.out.size)
    have g0 := cell_of_row _ _ 0 _ _ _ hdW
    have g1 := cell_of_row _ _ 1 _ _ _ hdW
    have g2 := cell_of_row _ _ 2 _ _ _ hdW
    have s0 := cell_of_row _ _ 0 _ _ _ hrW
    have s1 := cell_of_row _ _ 1 _ _ _ hrW
    have s2 := cell_of_row _ _ 2 _ _ _ hrW
    simp at g0 g1 g2 s0 s1 s2
    have hf : ∀ j, W.frozen? ⟨r, j, none⟩ = false := fun j => by simp [World.frozen?, hrW]
    have hf0 := hf 0
    have hf1 := hf 1
    have hf2 := hf 2
    have HO := Lib.hid hown
    have HBW := Lib.hid hBW
    have HRR := Lib.hid hrW
    clear hf hown hBW hrW hdW hA
    gi_wp2
    rw [part3r HRR.out (.int .i64 m) (.int .i64 m2) (.slice av K cv)]
    have hrD : r ≠ D' := by omega
    have hN := setRow_heap W r _ #[.int .i64 m, .int .i64 m2, .slice av K cv] _ _ HRR.out
    have hK2 : (W.setRow r #[.int .i64 m, .int .i64 m2, .slice av K cv]).heap[D']? = some (.deferred (some [])) := by rw [setRow_other _ _ _ _ (fun e => hrD e.symm)]; exact hK
    have hN2 : ((W.setRow r #[.int .i64 m, .int .i64 m2, .slice av K cv]).putObj D' (.deferred none)).heap[r]? = some (.cells #[.int .i64 m, .int .i64 m2, .slice av K cv] 44 (0, 0)) := by
      rw [World.putObj_heap_other hrD]
      exact hN
    refine ⟨by simp, .inl ⟨_, _, rfl, run_takeDeferred hK2, ?_⟩⟩
    refine ⟨.tuple #[.agg #[.int .i64 m, .int .i64 m2, .slice av K cv], .int .i64 0], results_row2 (t := 44) Tryd.results23 rfl rfl hN2 Tryd.underlying44 rfl HI.out, .slice av K cv, rfl, ?_, ?_⟩
    · rw [← HDD.out]
      refine own_via (own_via (ownsRow_le_ HO.out (by have := HRW.out; omega)) (fun q_ hq_ => setRow_other _ _ _ _ (by have := (HO.out.lt _ hq_).1; omega))) (fun q_ hq_ => World.putObj_heap_other (fun e => ?_))
      subst e
      have := own_cells HO.out _ _ hq_ hK
      cases this
    · exact (below_setRow (g := r) HBW.out (by have := HRW.out; omega) _).grown (grownBy_putObj' _ D' (.deferred none)) (by have := HBW.out.size; simp; omega) (fun k e => by cases e; have := HRW.out; omega)
  case stop =>
    intro D' c' pre W _ _ h _
    exact h.elim

end Go.Proofs.YtcohehekkeeeoaaDoor.Pg
