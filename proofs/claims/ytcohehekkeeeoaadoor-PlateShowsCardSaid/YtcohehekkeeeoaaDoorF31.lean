/- Layer 21 (plate): a picture that came in, as the program's. -/
import Derived.Test.YtcohehekkeeeoaaDoorF30
import Derived.Test.YtcohehekkeeeoaaDoorF09
namespace Go.Proofs.YtcohehekkeeeoaaDoor.Pg
open Go Go.RowKit Go.Proofs.YtcohehekkeeeoaaDoor Go.Proofs.YtcohehekkeeeoaaDoor.Re Go.Proofs.YtcohehekkeeeoaaDoor.Au
set_option linter.unusedVariables false
set_option linter.unusedSimpArgs false

section
variable {P : Program}
theorem run_append_row (w : World) (t ty : TypeId) (base : Nat) (e : TypeId) (i : TypeInfo) (z : Value) (size bytes : Nat) (ht : P.underlying t = some (.slice e)) (hi : P.info? e = some i) (hz : i.zero = some z)
    (hsize : i.size = size) (hby : i.bytes = bytes) (hzs : z.cells.size = size) (hsz : 0 < size) (v : Value) (n : Nat) (xs : List Value) (hown : w.ownsRow base e size v n xs)
    (x : Option Addr) (m c : Nat) (news : List Value) (hl : news.length = m * size) (hx : (x = none ∧ m = 0 ∧ c = 0) ∨ ∃ ad, x = some ad ∧ ∀ j u, news[j]? = some u → w.cell? (ad.add j) = some u) (h1 : ∀ u ∈ news, u.oneCell' = true)
    (h63 : n + m ≤ maxLen) (hbytes : (n + m) * bytes ≤ 140737488355328) (hbase : base ≤ w.heap.size) :
    ∃ v' w', (Builtin.append_ #[t, t] ty #[v, .slice x m c]).run P w = .ok v' w' ∧ w'.ownsRow base e size v' (n + m) (xs ++ news) ∧ w.grownBy w' v.ownBlock ∧ (v'.ownBlock = v.ownBlock ∨ v'.ownBlock = some w.heap.size) := by
  rcases hx with ⟨rfl, rfl, rfl⟩ | ⟨ad, rfl, hnews⟩
  · have hn : news = [] := List.eq_nil_of_length_eq_zero (by rw [hl]; simp)
    subst hn
    rw [List.append_nil, Nat.add_zero]
    exact ⟨v, w, run_append_owned_none (P := P) (w := w) base t ty e i size ht hi v n xs hown, hown, World.grownBy.refl w _, .inl rfl⟩
  · obtain ⟨v', w', hr, h2, h3, -, h5⟩ := run_append_own_at (P := P) w base t ty e i z size bytes ht hi hz hsize hby hzs hsz v n xs hown ad m c news hl hnews h1 h63 hbytes hbase
    exact ⟨v', w', hr, h2, h3, h5⟩

theorem step_append_row {ops : Array Oper} {o : Oper} {a : Act} {w : World} {K : Act → World → Prop} {Q : Exit → Act → World → Prop} {E : Prop} (hgd : o.guard = none) (s x : Operand) (t : TypeId)
    (ho : o.op = .call { callee := .builtin .append, args := #[s, x], argTypes := #[t, t] })
    (base : Nat) (e : TypeId) (i : TypeInfo) (z : Value) (size bytes : Nat) (ht : P.underlying t = some (.slice e)) (hi : P.info? e = some i) (hz : i.zero = some z)
    (hsize : i.size = size) (hby : i.bytes = bytes) (hzs : z.cells.size = size) (hsz : 0 < size)
    (v : Value) (n : Nat) (xs : List Value) (hs : a.eval s = v) (hown : w.ownsRow base e size v n xs)
    (xa : Option Addr) (m c : Nat) (news : List Value) (hxv : a.eval x = .slice xa m c) (hl : news.length = m * size) (hx : (xa = none ∧ m = 0 ∧ c = 0) ∨ ∃ ad, xa = some ad ∧ ∀ j u, news[j]? = some u → w.cell? (ad.add j) = some u) (h1 : ∀ u ∈ news, u.oneCell' = true)
    (h63 : n + m ≤ maxLen) (hbytes : (n + m) * bytes ≤ 140737488355328) (hbase : base ≤ w.heap.size)
    (h : ∀ v' w', w'.ownsRow base e size v' (n + m) (xs ++ news) → w.grownBy w' v.ownBlock → (v'.ownBlock = v.ownBlock ∨ v'.ownBlock = some w.heap.size) → K (a.put o.dst v') w') :
    if Region.wanted o (yielded ops a.tmps) = true then Oper.wp P o a w K Q else E := by
  have hw : Region.wanted o (yielded ops a.tmps) = true := by simp [Region.wanted, hgd]
  rw [if_pos hw]
  obtain ⟨v', w', hr, h2, h3, h5⟩ := run_append_row (P := P) w t o.type base e i z size bytes ht hi hz hsize hby hzs hsz v n xs hown xa m c news hl hx h1 h63 hbytes hbase
  unfold Oper.wp execOp
  simp only [ho, resolve, invoke, builtin, Sem.run_bind, Sem.run_pure, Result.andThen_ok, List.map_toArray, List.map_cons, List.map_nil, hs, hxv, hr]
  exact h v' w' h2 h3 h5
end

/-- a picture's dots that came in: where they lie -/
def Dn (w : World) (a : Option Addr) (n c : Nat) (D : List UInt8) : Prop := Dt w a n D ∧ (a = none → n = 0 ∧ c = 0)

theorem Dn.src {w : World} {a : Option Addr} {n c : Nat} {D : List UInt8} (h : Dn w a n c D) : (a = none ∧ n = 0 ∧ c = 0) ∨ ∃ ad, a = some ad ∧ ∀ j u, (vals D)[j]? = some u → w.cell? (ad.add j) = some u := by
  cases a with
  | none => exact .inl ⟨rfl, h.2 rfl⟩
  | some ad =>
    refine .inr ⟨ad, rfl, fun j u hu => ?_⟩
    obtain ⟨b, o, ha, hc⟩ := h.1.2 j u hu
    cases ha
    rw [add_at]
    exact hc

set_option maxHeartbeats 2000000 in
set_option maxRecDepth 100000 in
theorem to_any (x y : Int) (a : Option Addr) (n c : Nat) (D : List UInt8) (w : World) (hD : Dn w a n c D) (hn : n ≤ 5000) : Calls Tryd.prog 21 #[.agg #[.int .i64 x, .int .i64 y, .slice a n c]] w fun e' w' => (∃ v, e' = .returned (.agg #[.int .i64 x, .int .i64 y, v]) ∧ w'.ownsRow w.heap.size 69 3 v n (vals D)) ∧ Below w.heap.size w w' := by
  have HD := Lib.hid hD
  have HDl := Lib.hid hD.1.1
  clear hD
  obtain ⟨i0, hi, hz0, hz1, hz2⟩ := info_parts info3
  obtain ⟨B, hB⟩ : ∃ B, B = w.heap.size := ⟨_, rfl⟩
  go_enter Tryd.func21, Tryd.ntmps21
  go_upto_region 1 with fail
  have hr := rows2 w (.cells #[.int .i64 x, .int .i64 y, .slice a n c] 52) (.cells #[.int .i64 0, .int .i64 0, .slice none 0 0] 44)
  have hb := Ve.below_n2 w (.cells #[.int .i64 x, .int .i64 y, .slice a n c] 52) (.cells #[.int .i64 0, .int .i64 0, .slice none 0 0] 44)
  have hs : ((w.alloc (.cells #[.int .i64 x, .int .i64 y, .slice a n c] 52)).alloc (.cells #[.int .i64 0, .int .i64 0, .slice none 0 0] 44)).heap.size = w.heap.size + 2 := by simp
  obtain ⟨y0, hy0⟩ : ∃ y0, (w.alloc (.cells #[.int .i64 x, .int .i64 y, .slice a n c] 52)).alloc (.cells #[.int .i64 0, .int .i64 0, .slice none 0 0] 44) = y0 := ⟨_, rfl⟩
  rw [hy0] at hr hb hs ⊢
  rw [← hB] at hr hs ⊢
  have HBW := Lib.hid hB
  clear hy0
  have HB0 := Lib.hid hb
  clear hb hB
  have HI := Lib.hid (show (Tryd.prog.info? 44).map (·.size) = some 3 by kernel_rfl)
  refine Ol.way_drew (S := fun yy => yy.heap[B]? = some (.cells #[.int .i64 x, .int .i64 y, .slice a n c] 52 (0, 0)) ∧ yy.heap[B + 1]? = some (.cells #[.int .i64 0, .int .i64 0, .slice none 0 0] 44 (0, 0))) (stop := 10) (by kernel_rfl) (⟨hr.1, hr.2⟩) (fun hS0 => ?_)
  obtain ⟨w0, hw0⟩ : ∃ y, y0.drew = y := ⟨_, rfl⟩
  have HB1 := Lib.hid (show Below w.heap.size w w0 by rw [← hw0]; exact HB0.out.drew)
  have hs0 : w0.heap.size = B + 2 := by rw [← hw0]; exact hs
  rw [hw0] at hS0 ⊢
  clear hw0 hr hs
  refine Ol.way_plain (i := 0) (v := ?_) rfl (by kernel_rfl) (by kernel_rfl) (by kernel_rfl) (fun _ _ _ h => h) (by decide) (Or.inl ⟨by kernel_rfl, by (intro wz _; go_simp; try with_reducible rfl)⟩) (Ol.on hS0) ?_
  go_simp
  refine Ol.way_take (i := 1) (v := ?_) rfl (by kernel_rfl) (by kernel_rfl) (by kernel_rfl) (fun _ _ _ h => h) (by decide) (by kernel_rfl) (by kernel_rfl) (Or.inl ⟨by kernel_rfl, by (intro wz hSz; have cq0_ := cell_of_row _ _ 0 _ _ _ hSz.1; have cq1_ := cell_of_row _ _ 1 _ _ _ hSz.1; have cq2_ := cell_of_row _ _ 2 _ _ _ hSz.1; simp at cq0_ cq1_ cq2_; go_simp; try with_reducible rfl)⟩) hS0 ?_
  go_simp
  refine Ol.way_plain (i := 2) (v := ?_) rfl (by kernel_rfl) (by kernel_rfl) (by kernel_rfl) (fun _ _ _ h => h) (by decide) (Or.inl ⟨by kernel_rfl, by (intro wz _; go_simp; try with_reducible rfl)⟩) (Ol.on hS0) ?_
  go_simp
  refine Ol.way_take (i := 3) (v := ?_) rfl (by kernel_rfl) (by kernel_rfl) (by kernel_rfl) (fun _ _ _ h => h) (by decide) (by kernel_rfl) (by kernel_rfl) (Or.inl ⟨by kernel_rfl, by (intro wz hSz; have cq0_ := cell_of_row _ _ 0 _ _ _ hSz.1; have cq1_ := cell_of_row _ _ 1 _ _ _ hSz.1; have cq2_ := cell_of_row _ _ 2 _ _ _ hSz.1; simp at cq0_ cq1_ cq2_; go_simp; try with_reducible rfl)⟩) hS0 ?_
  go_simp
  refine Ol.way_plain (i := 4) (v := ?_) rfl (by kernel_rfl) (by kernel_rfl) (by kernel_rfl) (fun _ _ _ h => h) (by decide) (Or.inl ⟨by kernel_rfl, by (intro wz _; go_simp; try with_reducible rfl)⟩) (Ol.on hS0) ?_
  go_simp
  refine Ol.way_plain (i := 6) (v := ?_) rfl (by kernel_rfl) (by kernel_rfl) (by kernel_rfl) (fun _ _ _ h => h) (by decide) (Or.inl ⟨by kernel_rfl, by (intro wz _; go_simp; try with_reducible rfl)⟩) (Ol.on hS0) ?_
  go_simp
  refine Ol.way_take (i := 7) (v := ?_) rfl (by kernel_rfl) (by kernel_rfl) (by kernel_rfl) (fun _ _ _ h => h) (by decide) (by kernel_rfl) (by kernel_rfl) (Or.inl ⟨by kernel_rfl, by (intro wz hSz; have cq0_ := cell_of_row _ _ 0 _ _ _ hSz.1; have cq1_ := cell_of_row _ _ 1 _ _ _ hSz.1; have cq2_ := cell_of_row _ _ 2 _ _ _ hSz.1; simp at cq0_ cq1_ cq2_; go_simp; try with_reducible rfl)⟩) hS0 ?_
  go_simp
  refine Ol.way_ready (rs := [5]) (by kernel_rfl) (by simp) ?_
  refine Ol.Each.cons rfl (fun K hK => ?_) Ol.Each.nil
  go_simp
  have hb1 := Ve.below_n1 w0 (.cells #[] 69)
  have hS1' : (w0.alloc (.cells #[] 69)).heap[B]? = some (.cells #[.int .i64 x, .int .i64 y, .slice a n c] 52 (0, 0)) ∧ (w0.alloc (.cells #[] 69)).heap[B + 1]? = some (.cells #[.int .i64 0, .int .i64 0, .slice none 0 0] 44 (0, 0)) := ⟨(hb1.block _ (by omega)).trans hS0.1, (hb1.block _ (by omega)).trans hS0.2⟩
  have hO1 := World.ownsRow_made (e := 69) (size := 3) (base := B + 2) w0 #[] 0 (by omega) (by unfold maxLen; omega) rfl
  have hs1 : (w0.alloc (.cells #[] 69)).heap.size = B + 3 := by simp [hs0]
  obtain ⟨w1, hw1⟩ : ∃ w1, w0.alloc (.cells #[] 69) = w1 := ⟨_, rfl⟩
  rw [hs0] at hO1
  rw [hw1] at hS1' hO1 hs1 ⊢
  have HB2 := Lib.hid (show Below w.heap.size w w1 by rw [← hw1]; exact HB1.out.trans (hb1.mono HB1.out.size))
  have HD1 := Lib.hid (show Dn w1 a n c D from ⟨HD.out.1.on HB2.out, HD.out.2⟩)
  clear hw1 hb1 hs0
  refine Ol.keep hK _ _ hS1' (fun hS1 => ?_)
  clear hK K hS1'
  refine Ol.way_ready (rs := [8]) (by kernel_rfl) (by simp) ?_
  refine Ol.Each.cons rfl (fun K hK => ?_) Ol.Each.nil
  refine step_append_row rfl _ _ 42 rfl (B + 2) 69 i0 (.agg #[.int .u8 0, .int .u8 0, .int .u8 0]) 3 3 Tryd.underlying42 hi hz0 hz1 hz2 rfl (by decide) _ _ _ rfl hO1 a n c (vals D) rfl (by rw [vals_length, HDl.out]; omega) HD1.out.src (vals_one _) ?c1 ?c2 ?c3 ?_
  case c1 => unfold maxLen; omega
  case c2 => omega
  case c3 => omega
  intro v2 w2 ho2 hg2 hgk
  rw [Nat.zero_add, List.nil_append] at ho2
  obtain ⟨a2, c2, hv2⟩ := own_slice ho2
  subst hv2
  have hlt1 := (hO1.lt _ rfl)
  have hd2 := (hg2.block (B + 1) (by omega) (fun e => by cases e <;> omega)).trans hS1.2
  have hS2' : w2.heap[B]? = some (.cells #[.int .i64 x, .int .i64 y, .slice a n c] 52 (0, 0)) ∧ w2.heap[B + 1]? = some (.cells #[.int .i64 0, .int .i64 0, .slice none 0 0] 44 (0, 0)) := ⟨(hg2.block B (by omega) (fun e => by cases e <;> omega)).trans hS1.1, hd2⟩
  have HB3 := Lib.hid (HB2.out.grown hg2 (by have := HBW.out; omega) (fun q hq => by cases hq; have := HBW.out; omega))
  have HO2 := Lib.hid ho2
  refine Ol.keep hK _ _ hS2' (fun hS2 => ?_)
  clear hK K hS2' hS1 hg2 hgk ho2 hO1 hlt1
  refine Ol.way_plain (i := 9) (v := ?_) rfl (by kernel_rfl) (by kernel_rfl) (by kernel_rfl) (fun _ _ _ h => h) (by decide) (Or.inl ⟨by kernel_rfl, by (intro wz _; go_simp; try with_reducible rfl)⟩) (Ol.on hS2) ?_
  go_simp
  refine Ol.way_ready (rs := [10]) (by kernel_rfl) (by simp) ?_
  refine Ol.Each.cons rfl (fun K hK => ?_) Ol.Each.nil
  have p0 := cell_of_row _ _ 0 _ _ _ hd2
  have p1 := cell_of_row _ _ 1 _ _ _ hd2
  have p2 := cell_of_row _ _ 2 _ _ _ hd2
  simp at p0 p1 p2
  have fz : ∀ j, w2.frozen? ⟨B + 1, j, none⟩ = false := fun j => by simp [World.frozen?, hd2]
  go_simp
  refine Ol.past hK (by kernel_rfl) _ _ ?_
  clear hK K fz p0 p1 p2
  refine Ol.way_done (by kernel_rfl) ?_ _
  go_wp2
  rw [part3r hd2 (.int .i64 x) (.int .i64 y) (.slice a2 n c2)]
  have hN := setRow_heap w2 (B + 1) _ #[.int .i64 x, .int .i64 y, .slice a2 n c2] _ _ hd2
  exact bodyPost_ret (v := .agg #[.int .i64 x, .int .i64 y, .slice a2 n c2]) (results_row (t := 44) Tryd.results21 rfl hN Tryd.underlying44 rfl HI.out) rfl
    ⟨⟨_, rfl, own_via (ownsRow_le_ HO2.out (by have := HBW.out; omega)) (fun q hq => setRow_other _ _ _ _ (by have := (HO2.out.lt q hq).1; omega))⟩, below_setRow (g := B + 1) HB3.out (by have := HBW.out; omega) _⟩

end Go.Proofs.YtcohehekkeeeoaaDoor.Pg
