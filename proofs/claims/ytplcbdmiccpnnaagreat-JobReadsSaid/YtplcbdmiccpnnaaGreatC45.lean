/- Jobs, plainly: the scene that some bytes are, letter by letter; lists that were read, in a later world. -/
import Derived.Test.YtplcbdmiccpnnaaGreatC31
import Derived.Test.YtplcbdmiccpnnaaGreatC44
import Derived.Lib.SlBytesConst
namespace Go.Proofs.YtplcbdmiccpnnaaGreat.Jd
open Go.RowKit Go.Proofs.YtplcbdmiccpnnaaGreat Go.Proofs.YtplcbdmiccpnnaaGreat.Rp Go.Proofs.YtplcbdmiccpnnaaGreat.Re Go.Proofs.YtplcbdmiccpnnaaGreat.Au Go.Proofs.YtplcbdmiccpnnaaGreat.Jb
set_option linter.unusedVariables false
set_option linter.unusedSimpArgs false

theorem par_is (s t0 t1 t2 t3 t4 t5 t6 t7 t8 t9 t10 t11 c1 c2 c3 c4 p5 p6 p7 p8 : St) (a1 a2 a3 a4 a5 : Nat) (a6 : Int) (sd : Nat) (r1 r2 r3 : Int) (e1 e2 : Nat) (e3 : Int) (np nt nj ns : Nat)
    (h0 : t0 = mgK s 4) (x1 : a1 = (numS t0 2).1) (h1 : t1 = (numS t0 2).2) (x2 : a2 = (numS t1 2).1) (h2 : t2 = (numS t1 2).2) (x3 : a3 = (numS t2 2).1) (h3 : t3 = (numS t2 2).2) (x4 : a4 = (numS t3 2).1) (h4 : t4 = (numS t3 2).2) (x5 : a5 = (numS t4 2).1) (h5 : t5 = (numS t4 2).2)
    (x6 : a6 = (fixS t5).1) (h6 : t6 = (fixS t5).2) (x7 : sd = (numS t6 8).1) (h7 : t7 = (numS t6 8).2) (y1 : r1 = (threeS t7).1 0) (y2 : r2 = (threeS t7).1 1) (y3 : r3 = (threeS t7).1 2) (h8 : t8 = (threeS t7).2)
    (z1 : e1 = (numS t8 2).1) (h9 : t9 = (numS t8 2).2) (z2 : e2 = (numS t9 2).1) (h10 : t10 = (numS t9 2).2) (z3 : e3 = (fixS t10).1) (h11 : t11 = (fixS t10).2)
    (n1 : np = (manyS t11 32 22).1) (k1 : c1 = (manyS t11 32 22).2) (n2 : nt = (manyS c1 32 23).1) (k2 : c2 = (manyS c1 32 23).2) (n3 : nj = (manyS c2 32 24).1) (k3 : c3 = (manyS c2 32 24).2) (n4 : ns = (manyS c3 128 25).1) (k4 : c4 = (manyS c3 128 25).2)
    (q5 : p5 = itS paintE c4 np) (q6 : p6 = itS trackE p5 nt) (q7 : p7 = itS jointE p6 nj) (q8 : p8 = itS shapeE p7 ns) :
    parScn s = { w := (a1 : Int), h := (a2 : Int), sm := (a3 : Int), dp := (a4 : Int), fr := (a5 : Int), sh := a6, sd := sd, r := r1, g := r2, b := r3, ey := (e1 : Int), lk := (e2 : Int), wd := e3, np := np, P := itV paintE paintV 5 c4, nt := nt, way := fun i => trackW (itS trackE p5 i), kn := fun i => trackN (itS trackE p5 i), K := fun i => trackK (itS trackE p5 i), nj := nj, J := itV jointE jointV 4 p6, ns := ns, S := itV shapeE shapeV 13 p7 } ∧ sceneE s = p8 := by
  subst q8 q7 q6 q5 k4 n4 k3 n3 k2 n2 k1 n1 h11 z3 h10 z2 h9 z1 h8 y3 y2 y1 h7 x7 h6 x6 h5 x5 h4 x4 h3 x3 h2 x2 h1 x1 h0
  exact ⟨rfl, rfl⟩

theorem nums_of {c base n cap : Nat} {e : TypeId} {w w2 : World} {a : Option Addr} {L : Nat → Int} (h : w.ownsRow base e c (.slice a n cap) n (flatc c L n)) (hk : ∀ q, base ≤ q → q < w.heap.size → w2.heap[q]? = w.heap[q]?) (hs : n * (c * 8) ≤ 140737488351232) : Sc.Nums c w2 a n L := by
  have h2 : w2.ownsRow base e c (.slice a n cap) n (flatc c L n) := by
    refine ⟨h.1, ?_⟩
    have hl := fun q hq => h.lt q hq
    rcases h.2 with hn | ⟨q, cap', cur, hv, k1, k2, k3⟩
    · exact .inl hn
    · exact .inr ⟨q, cap', cur, hv, k1, (hk q (hl q (by rw [hv]; rfl)).1 (hl q (by rw [hv]; rfl)).2).trans k2, k3⟩
  obtain ⟨a', cap', e', lp⟩ := la_own h2
  injection e' with ea en ec
  subst ea
  exact lie_nums lp hs

theorem tracks_of {base n cap : Nat} {w w2 : World} {a : Option Addr} {s : St} {xs : List Value} (h : w.ownsRow base 77 2 (.slice a n cap) n xs) (ht : TrD base w s n xs) (hk : ∀ q, base ≤ q → q < w.heap.size → w2.heap[q]? = w.heap[q]?) (hs : n * 32 ≤ 140737488351232) :
    Sc.Tracks w2 a n (fun i => trackW (itS trackE s i)) (fun i => trackN (itS trackE s i)) (fun i => trackK (itS trackE s i)) := by
  have h2 : w2.ownsRow base 77 2 (.slice a n cap) n xs := by
    refine ⟨h.1, ?_⟩
    have hl := fun q hq => h.lt q hq
    rcases h.2 with hn | ⟨q, cap', cur, hv, k1, k2, k3⟩
    · exact .inl hn
    · exact .inr ⟨q, cap', cur, hv, k1, (hk q (hl q (by rw [hv]; rfl)).1 (hl q (by rw [hv]; rfl)).2).trans k2, k3⟩
  exact tld_tracks (tld_own h2 (ht.heap fun q cs fr b1 b2 => hk q b1 (lt_of_heap b2))) hs

theorem end_none {s : St} (h : (endS s).2 = 0) : s.2 = 0 := by
  unfold endS at h
  split at h
  · unfold failS at h
    split at h
    · assumption
    · exact h
  · exact h

theorem dinfo_scene : (Tryz.prog.info? 49).map (·.size) = some (#[.int .i64 0, .int .i64 0, .int .i64 0, .int .i64 0, .int .i64 0, .int .i64 0, .int .u64 0, .int .i64 0, .int .i64 0, .int .i64 0, .int .i64 0, .int .i64 0, .int .i64 0, .slice none 0 0, .slice none 0 0, .slice none 0 0, .slice none 0 0] : Array Value).size := by kernel_rfl

end Go.Proofs.YtplcbdmiccpnnaaGreat.Jd

/- The example of layer 9: bytes that are no job. -/
namespace Go.Proofs.YtplcbdmiccpnnaaGreat.Jb
open Go Go.RowKit Go.Proofs.YtplcbdmiccpnnaaGreat Go.Proofs.YtplcbdmiccpnnaaGreat.Rp Go.Proofs.YtplcbdmiccpnnaaGreat.Re Go.Proofs.YtplcbdmiccpnnaaGreat.Au Go.Proofs.YtplcbdmiccpnnaaGreat.Sc Go.Proofs.YtplcbdmiccpnnaaGreat.Tk
set_option linter.unusedVariables false
set_option linter.unusedSimpArgs false

theorem par1 : parE [90, 79, 69, 50] = 20 := by decide +kernel

theorem par2 : parE [90, 79] = 9 := by decide +kernel

theorem infoZC : (Tryz.prog.info? 36).map (·.size) = some zeroC.size := infoSC

theorem zeroSz : (#[.int .i64 0, .int .i64 0, .int .i64 0, .int .i64 0, .int .i64 0, .int .i64 0, .int .u64 0, .int .i64 0, .int .i64 0, .int .i64 0, .int .i64 0, .int .i64 0, .int .i64 0, .slice none 0 0, .slice none 0 0, .slice none 0 0, .slice none 0 0] : Array Value).size = zeroC.size := rfl

theorem zeroOne : zeroC.all (·.oneCell') = true := by simp [zeroC, Value.oneCell']

set_option maxHeartbeats 4000000 in
set_option maxRecDepth 100000 in
theorem jawake (w : World) : Calls Tryz.prog 6 #[] w fun e w' => e = .returned (.bool true) ∧ Below w.heap.size w w' := by
  have kc := fun (w : World) (C : Array Value) (n c : Nat) => Lib.run_convert_bytes_const (P := Tryz.prog) w 22 5 C n c Tryz.underlying22 Tryz.underlying5
  go_enter Tryz.func6, Tryz.ntmps6
  go_wp2_with fail
  refine (jparse [90, 79, 69, 50] _ 4 4 _ (bs_block [90, 79, 69, 50] 4 (heap_alloc_last _ _)) rfl).mono ?_
  rintro e w1 ⟨h1, hb1⟩
  rw [par1] at h1
  rcases h1 with ⟨-, rfl⟩ | ⟨h1, -⟩
  rotate_left
  · exact absurd h1 (by decide)
  have HU1 := Lib.hid ((Ve.below_n1 w _).trans (hb1.mono (by simp)))
  clear hb1
  go_upto_region 2 with (with_reducible refine wpList_store_new rfl 36 (.tmp 1) (.tmp 9) rfl w1 #[.int .i64 0, .int .i64 0, .int .i64 0, .int .i64 0, .int .i64 0, .int .i64 0, .int .u64 0, .int .i64 0, .int .i64 0, .int .i64 0, .int .i64 0, .int .i64 0, .int .i64 0, .slice none 0 0, .slice none 0 0, .slice none 0 0, .slice none 0 0] zeroC w1.heap.size rfl rfl rfl infoZC zeroSz zeroOne ?_)
  have hbn := Ve.below_n1 w1 (.cells zeroC 36)
  have hNn := heap_alloc_last w1 (.cells zeroC 36)
  obtain ⟨y2, hyn⟩ : ∃ y, w1.alloc (.cells zeroC 36) = y := ⟨_, rfl⟩
  rw [hyn] at hbn hNn ⊢
  clear hyn
  have HU2 := Lib.hid (HU1.out.trans (hbn.mono HU1.out.size))
  clear hbn hNn
  go_wp2_with fail
  refine (jparse [90, 79] _ 2 2 _ (bs_block [90, 79] 2 (heap_alloc_last _ _)) rfl).mono ?_
  rintro e w3 ⟨h3, hb3⟩
  rw [par2] at h3
  rcases h3 with ⟨-, rfl⟩ | ⟨h3, -⟩
  rotate_left
  · exact absurd h3 (by decide)
  have HU3 := Lib.hid (HU2.out.trans (((Ve.below_n1 y2 _).trans (hb3.mono (by simp))).mono HU2.out.size))
  clear hb3 HU2
  go_upto_region 3 with (with_reducible refine wpList_store_new rfl 36 (.tmp 3) (.tmp 15) rfl w3 #[.int .i64 0, .int .i64 0, .int .i64 0, .int .i64 0, .int .i64 0, .int .i64 0, .int .u64 0, .int .i64 0, .int .i64 0, .int .i64 0, .int .i64 0, .int .i64 0, .int .i64 0, .slice none 0 0, .slice none 0 0, .slice none 0 0, .slice none 0 0] zeroC w3.heap.size rfl rfl rfl infoZC zeroSz zeroOne ?_)
  have hbn := Ve.below_n1 w3 (.cells zeroC 36)
  have hNn := heap_alloc_last w3 (.cells zeroC 36)
  obtain ⟨y4, hyn⟩ : ∃ y, w3.alloc (.cells zeroC 36) = y := ⟨_, rfl⟩
  rw [hyn] at hbn hNn ⊢
  clear hyn
  have HU4 := Lib.hid (HU3.out.trans (hbn.mono HU3.out.size))
  clear hbn hNn HU3
  go_wp2
  go_ret
  exact ⟨rfl, HU4.out⟩

end Go.Proofs.YtplcbdmiccpnnaaGreat.Jb
