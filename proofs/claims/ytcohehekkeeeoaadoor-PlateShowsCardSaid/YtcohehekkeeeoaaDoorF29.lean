/- Layer 21 (plate): a picture as a file, by the document. -/
import Derived.Test.YtcohehekkeeeoaaDoorF25
import Derived.Test.YtcohehekkeeeoaaDoorF27
namespace Go.Proofs.YtcohehekkeeeoaaDoor.Pg
open Go Go.RowKit Go.Proofs.YtcohehekkeeeoaaDoor Go.Proofs.YtcohehekkeeeoaaDoor.Re Go.Proofs.YtcohehekkeeeoaaDoor.Au
set_option linter.unusedVariables false
set_option linter.unusedSimpArgs false

theorem step_append_E {P : Program} {ops : Array Oper} {o : Oper} {a : Act} (w : World) {K : Act → World → Prop} {Q : Exit → Act → World → Prop} {E : Prop} (hgd : o.guard = none) (s x : Operand) (t : TypeId)
    (ho : o.op = .call { callee := .builtin .append, args := #[s, x], argTypes := #[t, t] })
    (base : Nat) (i : TypeInfo) (z : Value) (ht : P.underlying t = some (.slice 5)) (hi : P.info? 5 = some i) (hz : i.zero = some z) (hzs : z.cells.size = 1) (hsize : i.size = 1) (hby : i.bytes = 1)
    (v : Value) (n : Nat) (xs : List Value) (hs : a.eval s = v) (hown : OwE w base v n xs) (h0 : 0 < n)
    (ad : Addr) (m c : Nat) (news : List Value) (hx : a.eval x = .slice (some ad) m c) (hl : news.length = m) (hnews : ∀ j u, news[j]? = some u → w.cell? (ad.add j) = some u) (h1 : ∀ u ∈ news, u.oneCell' = true)
    (h63 : n + m ≤ maxLen) (hbytes : n + m ≤ 140737488355328) (hbase : base ≤ w.heap.size)
    (h : ∀ v' w', OwE w' base v' (n + m) (xs ++ news) → w.grownBy w' v.ownBlock → K (a.put o.dst v') w') :
    if Region.wanted o (yielded ops a.tmps) = true then Oper.wp P o a w K Q else E := by
  have hw : Region.wanted o (yielded ops a.tmps) = true := by simp [Region.wanted, hgd]
  rw [if_pos hw]
  obtain ⟨v', w', hr, h2, h3⟩ := run_append_E (P := P) w base t o.type i z ht hi hz hzs hsize hby v n xs hown h0 ad m c news hl hnews h1 h63 hbytes hbase
  unfold Oper.wp execOp
  simp only [ho, resolve, invoke, builtin, Sem.run_bind, Sem.run_pure, Result.andThen_ok, List.map_toArray, List.map_cons, List.map_nil, hs, hx, hr]
  exact h v' w' h2 h3

set_option maxHeartbeats 2000000 in
set_option maxRecDepth 100000 in
theorem dencode_no (W H : Int) (a : Option Addr) (n c : Nat) (w : World) (h : ¬ Fm.okSh W H n) : Calls Tryd.prog 22 #[.agg #[.int .i64 W, .int .i64 H, .slice a n c]] w fun e' w' => e' = .returned (.tuple #[.slice none 0 0, .int .i64 1]) ∧ Below w.heap.size w w' := by
  have k := fun w => dpright_any W H a n c w
  rw [decide_eq_false h] at k
  clear h
  go_enter Tryd.func22, Tryd.ntmps22
  go_upto_region 1 with fail
  have hr0 := heap_alloc_last w (.cells #[.int .i64 W, .int .i64 H, .slice a n c] 52)
  have hb0 := Ve.below_n1 w (.cells #[.int .i64 W, .int .i64 H, .slice a n c] 52)
  obtain ⟨y0, hy0⟩ : ∃ y0, w.alloc (.cells #[.int .i64 W, .int .i64 H, .slice a n c] 52) = y0 := ⟨_, rfl⟩
  rw [hy0] at hr0 hb0 ⊢
  clear hy0
  have c0 := cell_of_row _ _ 0 _ _ _ hr0
  have c1 := cell_of_row _ _ 1 _ _ _ hr0
  have c2 := cell_of_row _ _ 2 _ _ _ hr0
  simp at c0 c1 c2
  have HU := Lib.hid hb0
  clear hb0
  go_wp2_with (go_at_call 27; refine (k _).mono ?_; rintro e y1 ⟨rfl, hb1⟩)
  go_ret2
  exact ⟨rfl, HU.out.trans (hb1.mono HU.out.size)⟩

set_option maxHeartbeats 4000000 in
set_option maxRecDepth 100000 in
theorem dencode_yes (W H : Int) (wn hn : Nat) (a : Option Addr) (n c : Nat) (D : List UInt8) (w : World) (hW : W = wn) (hH : H = hn) (h : Fm.okSh W H n) (hD : Dt w a n D) : Calls Tryd.prog 22 #[.agg #[.int .i64 W, .int .i64 H, .slice a n c]] w fun e' w' => ∃ v, e' = .returned (.tuple #[v, .int .i64 0]) ∧ OwE w' w.heap.size v (headL wn hn ++ D).length (vals (headL wn hn ++ D)) ∧ Below w.heap.size w w' := by
  have k := fun w => dpright_any W H a n c w
  rw [decide_eq_true h] at k
  obtain ⟨i0, hi, hz0, hz1, hz2⟩ := info_parts infoByte
  have hsz := h.1
  have hb4 : n ≤ 4096 := by have := h.2; have := (Fm.okSz_mul h.1).2; omega
  have h1 : 1 ≤ wn := by have := h.1.1; omega
  have h2 : wn ≤ 64 := by have := h.1.2.1; omega
  have h3 : 1 ≤ hn := by have := h.1.2.2.1; omega
  have h4 : hn ≤ 64 := by have := h.1.2.2.2; omega
  have HW := Lib.hid hW
  have HH := Lib.hid hH
  have HD := Lib.hid hD
  have hlen := head_len wn hn
  obtain ⟨B, hB⟩ : ∃ B, B = w.heap.size := ⟨_, rfl⟩
  clear hW hH hD h hsz
  go_enter Tryd.func22, Tryd.ntmps22
  go_upto_region 1 with fail
  rw [← hB]
  have hr0 := heap_alloc_last w (.cells #[.int .i64 W, .int .i64 H, .slice a n c] 52)
  rw [← hB] at hr0
  have hb0 : Below B w (w.alloc (.cells #[.int .i64 W, .int .i64 H, .slice a n c] 52)) := by rw [hB]; exact Ve.below_n1 w _
  have hd0 := HD.out.on (Ve.below_n1 w (.cells #[.int .i64 W, .int .i64 H, .slice a n c] 52))
  obtain ⟨y0, hy0⟩ : ∃ y0, w.alloc (.cells #[.int .i64 W, .int .i64 H, .slice a n c] 52) = y0 := ⟨_, rfl⟩
  rw [hy0] at hr0 hb0 hd0 ⊢
  have HBS := Lib.hid hB
  clear hy0 hB
  have hl0 := lt_heap hr0
  have c0 := cell_of_row _ _ 0 _ _ _ hr0
  have c1 := cell_of_row _ _ 1 _ _ _ hr0
  have c2 := cell_of_row _ _ 2 _ _ _ hr0
  simp at c0 c1 c2
  have HU0 := Lib.hid hb0
  have HD0 := Lib.hid hd0
  clear hb0 hd0
  go_upto_region 3 with (go_at_call 27; refine (k _).mono ?_; rintro e y1 ⟨rfl, hb1⟩)
  have hr1 := (hb1.block B hl0).trans hr0
  have HU1 := Lib.hid (HU0.out.trans (hb1.mono (by omega)))
  have HD1 := Lib.hid (HD0.out.on hb1)
  have hl1 := lt_heap hr1
  have d0 := cell_of_row _ _ 0 _ _ _ hr1
  have d1 := cell_of_row _ _ 1 _ _ _ hr1
  have d2 := cell_of_row _ _ 2 _ _ _ hr1
  simp at d0 d1 d2
  clear hb1 hr0 c0 c1 c2 k
  go_wp2_with fail
  refine (rhead_any W H wn hn HW.out HH.out h1 h2 h3 h4 y1).mono ?_
  rintro e y2 ⟨g0, k2, rfl, ho2, hb2⟩
  obtain ⟨a2, ha2⟩ : ∃ a : Option Addr, a = some ⟨g0, 0, none⟩ := ⟨_, rfl⟩
  rw [← ha2] at ho2 ⊢
  clear ha2
  have hr2 := (hb2.block B hl1).trans hr1
  have HU2 := Lib.hid (HU1.out.trans (hb2.mono (by omega)))
  have HD2 := Lib.hid (HD1.out.on hb2)
  have HO2 := Lib.hid (ho2.mono (show B + 1 ≤ y1.heap.size by omega))
  obtain ⟨g2, hg2⟩ : ∃ g, g = (headL wn hn).length := ⟨_, rfl⟩
  rw [← hg2] at HO2 hlen ⊢
  have HG2 := Lib.hid hg2
  clear hb2 ho2 hr1 d0 d1 d2 hg2
  have c0 := cell_of_row _ _ 0 _ _ _ hr2
  have c1 := cell_of_row _ _ 1 _ _ _ hr2
  have c2 := cell_of_row _ _ 2 _ _ _ hr2
  simp at c0 c1 c2
  have hl2 := lt_heap hr2
  go_upto_region 5 with fail
  go_loopw [4, 5] (fun b i wr => ∃ (k m : Nat) (ab : Option Addr) (cb : Nat), k ≤ n ∧ Hid (m = g2 + 3 * k) ∧ i = .int .i64 k ∧ b = .slice ab m cb ∧ Hid (OwE wr (B + 1) (.slice ab m cb) m (vals (headL wn hn ++ D.take (k * 3)))) ∧ Hid (Below (B + 1) y2 wr) ∧ B + 1 ≤ wr.heap.size) (fun _ i _ => n - (intOf i).toNat)
  case atStart => exact ⟨0, g2, a2, k2, by omega, Lib.hid (by omega), rfl, rfl, Lib.hid (by simpa using HO2.out), Lib.hid (Below.refl _ _), by omega⟩
  case round =>
    obtain ⟨k, m, ab, cb, hk, HM, rfl, rfl, HO, HU, hwl⟩ := hrel
    have HRB := (HU.out.block B (by omega)).trans hr2
    have HUB := Lib.hid (show Below w.heap.size w wr by rw [← HBS.out]; exact HU2.out.trans (HU.out.mono (by omega)))
    have HDD := Lib.hid (HD.out.on HUB.out)
    by_cases hlt : k < n
    · obtain ⟨b, o, ha, e0, e1, e2⟩ := HDD.out.at hlt
      subst ha
      obtain ⟨x, hx⟩ : ∃ x : Int, x = ((bn D (k * 3) : Nat) : Int) := ⟨_, rfl⟩
      obtain ⟨yy, hy⟩ : ∃ yy : Int, yy = ((bn D (k * 3 + 1) : Nat) : Int) := ⟨_, rfl⟩
      obtain ⟨z, hz⟩ : ∃ z : Int, z = ((bn D (k * 3 + 2) : Nat) : Int) := ⟨_, rfl⟩
      rw [← hx] at e0
      rw [← hy] at e1
      rw [← hz] at e2
      have HX := Lib.hid hx
      have HY := Lib.hid hy
      have HZ := Lib.hid hz
      clear hx hy hz
      have hlt' : (k : Int) < n := by omega
      have hrB := (show wr.heap[B]? = some (.cells #[.int .i64 W, .int .i64 H, .slice (some ⟨b, o, none⟩) n c] 52 (0, 0)) from HRB)
      have c2' := cell_of_row _ _ 2 _ _ _ hrB
      simp at c2'
      have HM0 := Lib.hid (show 0 < m by have := HM.out; omega)
      have hmb : m ≤ 13000 := by have := HM.out; omega
      go_upto_region 7 with fail
      refine Ol.way_drew (S := fun y => y.heap[B]? = some (.cells #[.int .i64 W, .int .i64 H, .slice (some ⟨b, o, none⟩) n c] 52 (0, 0)) ∧ y.cell? ⟨b, o + k * 3, none⟩ = some (.int .u8 x) ∧ y.cell? ⟨b, o + k * 3 + 1, none⟩ = some (.int .u8 yy) ∧ y.cell? ⟨b, o + k * 3 + 2, none⟩ = some (.int .u8 z)) (stop := 21) (by kernel_rfl) (⟨hrB, e0, e1, e2⟩) (fun hS0 => ?_)
      obtain ⟨w0, hw0⟩ : ∃ y, wr.drew = y := ⟨_, rfl⟩
      have HO0 := Lib.hid (show OwE w0 (B + 1) (.slice ab m cb) m (vals (headL wn hn ++ D.take (k * 3))) by rw [← hw0]; exact HO.out)
      have HU0' := Lib.hid (show Below (B + 1) y2 w0 by rw [← hw0]; exact HU.out.drew)
      have hs0 : B + 1 ≤ w0.heap.size := by rw [← hw0]; exact hwl
      rw [hw0] at hS0 ⊢
      clear hw0 hrB c2' HO HU hwl e0 e1 e2
      refine Ol.way_plain (i := 0) (v := ?_) rfl (by kernel_rfl) (by kernel_rfl) (by kernel_rfl) (fun _ _ _ h => h) (by decide) (Or.inl ⟨by kernel_rfl, by (intro wz _; go_simp; try with_reducible rfl)⟩) (Ol.on hS0) ?_
      go_simp
      refine Ol.way_plain (i := 1) (v := ?_) rfl (by kernel_rfl) (by kernel_rfl) (by kernel_rfl) (fun _ _ _ h => h) (by decide) (Or.inl ⟨by kernel_rfl, by (intro wz _; go_simp; try with_reducible rfl)⟩) (Ol.on hS0) ?_
      go_simp
      refine Ol.way_take (i := 2) (v := ?_) rfl (by kernel_rfl) (by kernel_rfl) (by kernel_rfl) (fun _ _ _ h => h) (by decide) (by kernel_rfl) (by kernel_rfl) (Or.inl ⟨by kernel_rfl, by (intro wz hSz; have cq_ := cell_of_row _ _ 2 _ _ _ hSz.1; simp at cq_; go_simp; try with_reducible rfl)⟩) hS0 ?_
      go_simp
      refine Ol.way_plain (i := 3) (v := ?_) rfl (by kernel_rfl) (by kernel_rfl) (by kernel_rfl) (fun _ _ _ h => h) (by decide) (Or.inl ⟨by kernel_rfl, by (intro wz _; go_simp; try with_reducible rfl)⟩) (Ol.on hS0) ?_
      go_simp
      refine Ol.way_plain (i := 4) (v := ?_) rfl (by kernel_rfl) (by kernel_rfl) (by kernel_rfl) (fun _ _ _ h => h) (by decide) (Or.inl ⟨by kernel_rfl, by (intro wz _; go_simp; try with_reducible rfl)⟩) (Ol.on hS0) ?_
      go_simp
      refine Ol.way_plain (i := 5) (v := ?_) rfl (by kernel_rfl) (by kernel_rfl) (by kernel_rfl) (fun _ _ _ h => h) (by decide) (Or.inl ⟨by kernel_rfl, by (intro wz _; go_simp; try with_reducible rfl)⟩) (Ol.on hS0) ?_
      go_simp
      refine Ol.way_take (i := 6) (v := ?_) rfl (by kernel_rfl) (by kernel_rfl) (by kernel_rfl) (fun _ _ _ h => h) (by decide) (by kernel_rfl) (by kernel_rfl) (Or.inl ⟨by kernel_rfl, by (intro wz hSz; obtain ⟨cq0_, cq1_, cq2_⟩ := hSz.2; go_simp; try with_reducible rfl)⟩) hS0 ?_
      go_simp
      refine Ol.way_plain (i := 7) (v := ?_) rfl (by kernel_rfl) (by kernel_rfl) (by kernel_rfl) (fun _ _ _ h => h) (by decide) (Or.inl ⟨by kernel_rfl, by (intro wz _; go_simp; try with_reducible rfl)⟩) (Ol.on hS0) ?_
      go_simp
      refine Ol.way_take (i := 8) (v := ?_) rfl (by kernel_rfl) (by kernel_rfl) (by kernel_rfl) (fun _ _ _ h => h) (by decide) (by kernel_rfl) (by kernel_rfl) (Or.inl ⟨by kernel_rfl, by (intro wz hSz; have cq_ := cell_of_row _ _ 2 _ _ _ hSz.1; simp at cq_; go_simp; try with_reducible rfl)⟩) hS0 ?_
      go_simp
      refine Ol.way_plain (i := 9) (v := ?_) rfl (by kernel_rfl) (by kernel_rfl) (by kernel_rfl) (fun _ _ _ h => h) (by decide) (Or.inl ⟨by kernel_rfl, by (intro wz _; go_simp; try with_reducible rfl)⟩) (Ol.on hS0) ?_
      go_simp
      refine Ol.way_plain (i := 10) (v := ?_) rfl (by kernel_rfl) (by kernel_rfl) (by kernel_rfl) (fun _ _ _ h => h) (by decide) (Or.inl ⟨by kernel_rfl, by (intro wz _; go_simp; try with_reducible rfl)⟩) (Ol.on hS0) ?_
      go_simp
      refine Ol.way_plain (i := 11) (v := ?_) rfl (by kernel_rfl) (by kernel_rfl) (by kernel_rfl) (fun _ _ _ h => h) (by decide) (Or.inl ⟨by kernel_rfl, by (intro wz _; go_simp; try with_reducible rfl)⟩) (Ol.on hS0) ?_
      go_simp
      refine Ol.way_take (i := 12) (v := ?_) rfl (by kernel_rfl) (by kernel_rfl) (by kernel_rfl) (fun _ _ _ h => h) (by decide) (by kernel_rfl) (by kernel_rfl) (Or.inl ⟨by kernel_rfl, by (intro wz hSz; obtain ⟨cq0_, cq1_, cq2_⟩ := hSz.2; go_simp; try with_reducible rfl)⟩) hS0 ?_
      go_simp
      refine Ol.way_plain (i := 13) (v := ?_) rfl (by kernel_rfl) (by kernel_rfl) (by kernel_rfl) (fun _ _ _ h => h) (by decide) (Or.inl ⟨by kernel_rfl, by (intro wz _; go_simp; try with_reducible rfl)⟩) (Ol.on hS0) ?_
      go_simp
      refine Ol.way_take (i := 14) (v := ?_) rfl (by kernel_rfl) (by kernel_rfl) (by kernel_rfl) (fun _ _ _ h => h) (by decide) (by kernel_rfl) (by kernel_rfl) (Or.inl ⟨by kernel_rfl, by (intro wz hSz; have cq_ := cell_of_row _ _ 2 _ _ _ hSz.1; simp at cq_; go_simp; try with_reducible rfl)⟩) hS0 ?_
      go_simp
      refine Ol.way_plain (i := 15) (v := ?_) rfl (by kernel_rfl) (by kernel_rfl) (by kernel_rfl) (fun _ _ _ h => h) (by decide) (Or.inl ⟨by kernel_rfl, by (intro wz _; go_simp; try with_reducible rfl)⟩) (Ol.on hS0) ?_
      go_simp
      refine Ol.way_plain (i := 16) (v := ?_) rfl (by kernel_rfl) (by kernel_rfl) (by kernel_rfl) (fun _ _ _ h => h) (by decide) (Or.inl ⟨by kernel_rfl, by (intro wz _; go_simp; try with_reducible rfl)⟩) (Ol.on hS0) ?_
      go_simp
      refine Ol.way_plain (i := 17) (v := ?_) rfl (by kernel_rfl) (by kernel_rfl) (by kernel_rfl) (fun _ _ _ h => h) (by decide) (Or.inl ⟨by kernel_rfl, by (intro wz _; go_simp; try with_reducible rfl)⟩) (Ol.on hS0) ?_
      go_simp
      refine Ol.way_take (i := 18) (v := ?_) rfl (by kernel_rfl) (by kernel_rfl) (by kernel_rfl) (fun _ _ _ h => h) (by decide) (by kernel_rfl) (by kernel_rfl) (Or.inl ⟨by kernel_rfl, by (intro wz hSz; obtain ⟨cq0_, cq1_, cq2_⟩ := hSz.2; go_simp; try with_reducible rfl)⟩) hS0 ?_
      go_simp
      refine Ol.way_ready (rs := [19]) (by kernel_rfl) (by simp) ?_
      refine Ol.Each.cons rfl (fun K hK => ?_) Ol.Each.nil
      go_simp
      have hb1 := Ve.below_n1 w0 (.cells #[.int .u8 x, .int .u8 yy, .int .u8 z] 5)
      have HC := Lib.hid (cells3 w0 (.int .u8 x) (.int .u8 yy) (.int .u8 z) 5)
      have HO1 := Lib.hid (HO0.out.on hb1)
      have HU1' := Lib.hid (HU0'.out.trans (hb1.mono (by omega)))
      have hS1' : (w0.alloc (.cells #[.int .u8 x, .int .u8 yy, .int .u8 z] 5)).heap[B]? = some (.cells #[.int .i64 W, .int .i64 H, .slice (some ⟨b, o, none⟩) n c] 52 (0, 0)) ∧ (w0.alloc (.cells #[.int .u8 x, .int .u8 yy, .int .u8 z] 5)).cell? ⟨b, o + k * 3, none⟩ = some (.int .u8 x) ∧ (w0.alloc (.cells #[.int .u8 x, .int .u8 yy, .int .u8 z] 5)).cell? ⟨b, o + k * 3 + 1, none⟩ = some (.int .u8 yy) ∧ (w0.alloc (.cells #[.int .u8 x, .int .u8 yy, .int .u8 z] 5)).cell? ⟨b, o + k * 3 + 2, none⟩ = some (.int .u8 z) :=
        ⟨(hb1.block B (by omega)).trans hS0.1, old1 _ hS0.2.1, old1 _ hS0.2.2.1, old1 _ hS0.2.2.2⟩
      have hs1 : (w0.alloc (.cells #[.int .u8 x, .int .u8 yy, .int .u8 z] 5)).heap.size = w0.heap.size + 1 := by simp
      obtain ⟨q, hq⟩ : ∃ q, q = w0.heap.size := ⟨_, rfl⟩
      obtain ⟨w1, hw1⟩ : ∃ w1, w0.alloc (.cells #[.int .u8 x, .int .u8 yy, .int .u8 z] 5) = w1 := ⟨_, rfl⟩
      rw [hw1] at HC HO1 HU1' hS1' hs1 ⊢
      rw [← hq] at HC hs1 ⊢
      have hqb : B + 1 ≤ q := by omega
      clear hw1 hq hb1
      refine Ol.keep hK _ _ hS1' (fun hS1 => ?_)
      clear hK K hS1'
      refine Ol.way_ready (rs := [20]) (by kernel_rfl) (by simp) ?_
      refine Ol.Each.cons rfl (fun K hK => ?_) Ol.Each.nil
      refine step_append_E _ rfl _ _ 56 rfl (B + 1) i0 (.int .u8 0) Tryd.underlying56 hi hz0 rfl hz1 hz2 _ m _ rfl HO1.out HM0.out ⟨q, 0, none⟩ 3 3 [.int .u8 x, .int .u8 yy, .int .u8 z] rfl rfl HC.out (by simp [Value.oneCell']) ?d1 ?d2 ?d3 ?_
      case d1 => unfold maxLen; omega
      case d2 => omega
      case d3 => omega
      intro v3 w2 ho2 hg2
      have hbg : Below (B + 1) w1 w2 := (Below.refl _ w1).grown hg2 (by omega) (fun q hq => (HO1.out.lt q hq).1)
      have HU2' := Lib.hid (HU1'.out.trans hbg)
      have hs2 : B + 1 ≤ w2.heap.size := by have := hg2.size; omega
      have hx : vals (headL wn hn ++ D.take (k * 3)) ++ [.int .u8 x, .int .u8 yy, .int .u8 z] = vals (headL wn hn ++ D.take ((k + 1) * 3)) := by
        rw [vals_append, vals_append, take3 (by have := HD.out.1; omega), HX.out, HY.out, HZ.out, List.append_assoc]
      rw [hx] at ho2
      obtain ⟨a3, c3, hv3⟩ := ho2.form
      subst hv3
      have HO3 := Lib.hid ho2
      have HBB := Lib.hid (show Below w.heap.size w w2 by rw [← HBS.out]; exact HU2.out.trans (HU2'.out.mono (by omega)))
      have HD3 := HD.out.on HBB.out
      obtain ⟨b', o', hba, f0, f1, f2⟩ := HD3.at hlt
      cases hba
      refine Ol.keep hK _ _ ⟨(hbg.block B (by omega)).trans hS1.1, by rw [f0, HX.out], by rw [f1, HY.out], by rw [f2, HZ.out]⟩ (fun hS2 => ?_)
      clear hK K ho2 hg2 hx hbg f0 f1 f2 HD3 HC HO1 HU1' hs1
      refine Ol.way_ready (rs := [21]) (by kernel_rfl) (by simp) ?_
      refine Ol.Each.cons rfl (fun K hK => ?_) Ol.Each.nil
      go_simp
      refine Ol.past hK (by kernel_rfl) _ _ ?_
      clear hK K
      refine Ol.way_done (by kernel_rfl) ?_ _
      go_wp2
      go_roundw
      case rel => exact ⟨k + 1, m + 3, a3, c3, by omega, Lib.hid (by have := HM.out; omega), by go_num, rfl, HO3, HU2', hs2⟩
      case measure => simp [intOf]; omega
    · obtain rfl : k = n := by omega
      have c2' := cell_of_row _ _ 2 _ _ _ HRB
      simp at c2'
      have hx : headL wn hn ++ D.take (k * 3) = headL wn hn ++ D := by rw [List.take_of_length_le (by have := HD.out.1; omega)]
      have hy := HO.out
      rw [hx] at hy
      have hm : m = (headL wn hn ++ D).length := by have := HM.out; have := HG2.out; have := HD.out.1; rw [List.length_append]; omega
      have HF := Lib.hid (show OwE wr w.heap.size (.slice ab m cb) (headL wn hn ++ D).length (vals (headL wn hn ++ D)) by rw [← hm, ← HBS.out]; exact hy.mono (by omega))
      have HB := HUB
      clear hx hy hm HDD
      go_wp2
      go_ret2
      exact ⟨_, rfl, HF.out, HB.out⟩

end Go.Proofs.YtcohehekkeeeoaaDoor.Pg
