/- Films, sheets: from the document's to the program's: a film. -/
import Derived.Test.YtcohehekkeeeoaaDoorF46
import Derived.Test.YtcohehekkeeeoaaDoorF47
import Derived.Test.YtcohehekkeeeoaaDoorF09
import Derived.Test.YtcohehekkeeeoaaDoorF48
namespace Go.Proofs.YtcohehekkeeeoaaDoor.Fm
open Go Go.RowKit Go.Proofs.YtcohehekkeeeoaaDoor Go.Proofs.YtcohehekkeeeoaaDoor.Rp Go.Proofs.YtcohehekkeeeoaaDoor.Re Go.Proofs.YtcohehekkeeeoaaDoor.Au Go.Proofs.YtcohehekkeeeoaaDoor.Jw
set_option linter.unusedVariables false
set_option linter.unusedSimpArgs false

theorem own_low {w : World} {b1 b2 : Nat} {e : TypeId} {size n : Nat} {v : Value} {xs : List Value} (h : w.ownsRow b1 e size v n xs) (hb : b2 ≤ b1) : w.ownsRow b2 e size v n xs := by
  refine ⟨h.1, ?_⟩
  rcases h.2 with h | ⟨q, cap, cur, h1, h2, h3⟩
  · exact .inl h
  · exact .inr ⟨q, cap, cur, h1, by omega, h3⟩

theorem src_of {w : World} {a : Option Addr} {n c : Nat} {L : Nat → Int} (h : Rw 1 w a n L) (hk : a = none → n = 0 ∧ c = 0) : (a = none ∧ n = 0 ∧ c = 0) ∨ ∃ ad, a = some ad ∧ ∀ j u, (flatc 1 L n)[j]? = some u → w.cell? (ad.add j) = some u := by
  cases a with
  | none => exact .inl ⟨rfl, hk rfl⟩
  | some ad =>
    refine .inr ⟨ad, rfl, fun j u hu => ?_⟩
    have hj : j < n * 1 := by
      have := (List.getElem?_eq_some_iff.1 hu).1
      rwa [flatc_len] at this
    rcases h with h | ⟨b, off, he, hlt, hc⟩
    · omega
    · cases he
      rw [flatc_at _ _ _ _ hj] at hu
      cases hu
      rw [Addr.add_mid]
      exact hc j hj

/-- a film that lies there, in blocks of which something is known -/
structure FAtQ (P : Nat → Prop) (w : World) (f : Flm) (p : Pl) : Prop where
  l : RwP P 3 w p.al f.nl f.L
  d : RwP P 1 w p.ad f.nd f.D
  n : RwP P 3 w p.an f.nn f.N
  b : RwP P 3 w p.ab f.nb f.B
  s : RwP P 1 w p.ax f.ns f.S
  f : RwP P 1 w p.af f.nf f.F

theorem FAtQ.fat {P : Nat → Prop} {w : World} {f : Flm} {p : Pl} (h : FAtQ P w f p) : FAt w f p := ⟨h.l.rw (by decide), h.d.rw (by decide), h.n.rw (by decide), h.b.rw (by decide), h.s.rw (by decide), h.f.rw (by decide)⟩

theorem FAtQ.keep {P : Nat → Prop} {w w' : World} {f : Flm} {p : Pl} (h : FAtQ P w f p) (hk : ∀ b, P b → w'.heap[b]? = w.heap[b]?) : FAtQ P w' f p := ⟨h.l.keep hk, h.d.keep hk, h.n.keep hk, h.b.keep hk, h.s.keep hk, h.f.keep hk⟩

theorem FAtQ.weak {P P' : Nat → Prop} {w : World} {f : Flm} {p : Pl} (h : FAtQ P w f p) (hk : ∀ b, P b → P' b) : FAtQ P' w f p := ⟨h.l.weak hk, h.d.weak hk, h.n.weak hk, h.b.weak hk, h.s.weak hk, h.f.weak hk⟩

theorem FAtQ.lt {P : Nat → Prop} {w : World} {f : Flm} {p : Pl} (h : FAtQ P w f p) : FAtQ (fun b => P b ∧ b < w.heap.size) w f p := ⟨h.l.lt (by decide), h.d.lt (by decide), h.n.lt (by decide), h.b.lt (by decide), h.s.lt (by decide), h.f.lt (by decide)⟩

theorem FAtQ.below {P : Nat → Prop} {w w' : World} {f : Flm} {p : Pl} (h : FAtQ P w f p) (hb : Below w.heap.size w w') : FAtQ P w' f p := (h.lt.keep (fun b k => hb.block b k.2)).weak (fun b k => k.1)

/-- a film of nothing, in a block; the film that is begun -/
abbrev ZFo : Obj := .cells #[.int .i64 0, .int .i64 0, .slice none 0 0, .slice none 0 0, .slice none 0 0, .slice none 0 0, .slice none 0 0, .slice none 0 0] 40
abbrev cqf (W H : Int) (al : Option Addr) (nl cl : Nat) (as_ : Option Addr) (ns cs : Nat) (af : Option Addr) (nf cf : Nat) : Array Value := #[.int .i64 W, .int .i64 H, .slice al nl cl, .slice none 0 0, .slice none 0 0, .slice none 0 0, .slice as_ ns cs, .slice af nf cf]

theorem to_close {w z : World} {q : Nat} {CQ : Array Value} {ob oR : Obj} {al as_ af : Option Addr} {nl ns nf : Nat} {L S F : Nat → Int} {c0 : Array Value} (hQ : z.heap[q]? = some (.cells c0 40 (0, 0))) (hB : z.heap[w.heap.size]? = some ob) (hR : z.heap[w.heap.size + 1]? = some oR) (hU : Below w.heap.size w z) (hq : w.heap.size + 1 < q)
    (RL : RwX q (w.heap.size + 1) 3 z al nl L) (RA : RwX q (w.heap.size + 1) 1 z as_ ns S) (RB : RwX q (w.heap.size + 1) 1 z af nf F) :
    (z.setRow q CQ).heap[q]? = some (.cells CQ 40 (0, 0)) ∧ (z.setRow q CQ).heap[w.heap.size]? = some ob ∧ (z.setRow q CQ).heap[w.heap.size + 1]? = some oR ∧ Hid (RwX q (w.heap.size + 1) 3 (z.setRow q CQ) al nl L) ∧ Hid (RwX q (w.heap.size + 1) 1 (z.setRow q CQ) as_ ns S) ∧ Hid (RwX q (w.heap.size + 1) 1 (z.setRow q CQ) af nf F) ∧ Hid (Below w.heap.size w (z.setRow q CQ)) := by
  have hO : ∀ k, k ≠ q → (z.setRow q CQ).heap[k]? = z.heap[k]? := fun k hk => setRow_other _ _ _ _ hk
  exact ⟨setRow_heap _ q _ CQ _ _ hQ, (hO _ (by omega)).trans hB, (hO _ (by omega)).trans hR, Lib.hid (RL.keep fun b hb => hO b hb.1), Lib.hid (RA.keep fun b hb => hO b hb.1), Lib.hid (RB.keep fun b hb => hO b hb.1), Lib.hid (below_setRow (g := q) hU (by omega) CQ)⟩

theorem app_int {ops : Array Oper} {o : Oper} {a : Act} {w z : World} {K : Act → World → Prop} {Q : Exit → Act → World → Prop} {E : Prop} {s x : Operand} {i0 : TypeInfo} (ji : Tryd.prog.info? 3 = some i0) (jz0 : i0.zero = some (.int .i64 0)) (jz1 : i0.size = 1) (jz2 : i0.bytes = 8) (A : Nat) (hA : z.ownsRow A 3 1 (.slice (some ⟨A, 0, none⟩) 0 0) 0 []) (hU : Below w.heap.size w z) (hLW : w.heap.size ≤ A)
    (xa : Option Addr) (c : Nat) {n : Nat} (L : Nat → Int) (hr : Rw 1 z xa n L) (hk : xa = none → n = 0 ∧ c = 0) (hn : n * 8 ≤ 140737488351232) (hgo : o.guard = none ∧ o.op = .call { callee := .builtin .append, args := #[s, x], argTypes := #[27, 27] }) (hev : a.eval s = .slice (some ⟨A, 0, none⟩) 0 0 ∧ a.eval x = .slice xa n c)
    (h : ∀ (a' : Option Addr) (c' : Nat) (z' : World), z.grownBy z' (some A) → z.heap.size ≤ z'.heap.size → Hid (Below w.heap.size w z') → RwP (fun b => (b = A ∨ z.heap.size ≤ b) ∧ b < z'.heap.size) 1 z' a' n L → K (a.put o.dst (.slice a' n c')) z') :
    if Region.wanted o (yielded ops a.tmps) = true then Oper.wp Tryd.prog o a z K Q else E := by
  have hlt := hA.lt A rfl
  refine step_append_row hgo.1 s x 27 hgo.2 A 3 i0 (.int .i64 0) 1 8 Tryd.underlying27 ji jz0 jz1 jz2 rfl (by decide) _ 0 [] hev.1 hA xa n c (flatc 1 L n) hev.2 (flatc_len _ _ _) (src_of hr hk) (flatc_one _ _ _) (by unfold maxLen; omega) (by omega) (by omega) ?_
  intro v' z' hown hgrow hat
  have hown' : z'.ownsRow A 3 1 v' n (flatc 1 L n) := by simpa using hown
  obtain ⟨a', c', hv⟩ := own_slice hown'
  subst hv
  have hs := hgrow.size
  have hbl : (Value.slice (some ⟨A, 0, none⟩) 0 0).ownBlock = some A := rfl
  rw [hbl] at hgrow hat
  exact h a' c' z' hgrow hs (Lib.hid (hU.grown hgrow hU.size (fun r hr => by cases hr; exact hLW))) (rwp_own _ hown' (fun b h1 h2 h3 => by rw [h3] at hat; simp at hat; omega))

set_option maxHeartbeats 16000000 in
set_option maxRecDepth 100000 in
theorem to_letters (W H : Int) (al ad an ab ax af : Option Addr) (cl cd cn cb cx cf nl nd nn nb ns nf : Nat) (L D N B S F : Nat → Int) (w : World) (hl : Rw 3 w al nl L) (hd : Rw 1 w ad nd D) (hn : Rw 3 w an nn N) (hb : Rw 3 w ab nb B) (hs : Rw 1 w ax ns S) (hf : Rw 1 w af nf F) (bl : nl * 24 ≤ 140737488351232) (bd : nd * 8 ≤ 140737488351232) (bn : nn * 24 ≤ 140737488351232) (bb : nb * 24 ≤ 140737488351232) (bs : ns * 8 ≤ 140737488351232) (bf : nf * 8 ≤ 140737488351232) (ks : ax = none → ns = 0 ∧ cx = 0) (kf : af = none → nf = 0 ∧ cf = 0) : Calls Tryd.prog 8 #[.agg #[.int .i64 W, .int .i64 H, .slice al nl cl, .slice ad nd cd, .slice an nn cn, .slice ab nb cb, .slice ax ns cx, .slice af nf cf]] w fun e' w' => (∃ p : Pl, e' = .returned (.agg (FC ⟨W, H, nl, nd, nn, nb, ns, nf, L, D, N, B, S, F⟩ p)) ∧ FAtQ (fun b => w.heap.size ≤ b) w' ⟨W, H, nl, nd, nn, nb, ns, nf, L, D, N, B, S, F⟩ p) ∧ Below w.heap.size w w' := by
  have HL_ := Lib.hid hl
  clear hl
  have HD_ := Lib.hid hd
  clear hd
  have HN_ := Lib.hid hn
  clear hn
  have HB_ := Lib.hid hb
  clear hb
  have HS_ := Lib.hid hs
  clear hs
  have HF_ := Lib.hid hf
  clear hf
  have KS := Lib.hid ks
  have KF := Lib.hid kf
  clear ks kf
  go_enter Tryd.func8, Tryd.ntmps8
  go_upto_region 1 with fail
  have hR := Au.rows2 w (.cells #[.int .i64 W, .int .i64 H, .slice al nl cl, .slice ad nd cd, .slice an nn cn, .slice ab nb cb, .slice ax ns cx, .slice af nf cf] 29) (.cells #[.int .i64 0, .int .i64 0, .slice none 0 0, .slice none 0 0, .slice none 0 0, .slice none 0 0, .slice none 0 0, .slice none 0 0] 40)
  have HUx := Ve.below_n2 w (.cells #[.int .i64 W, .int .i64 H, .slice al nl cl, .slice ad nd cd, .slice an nn cn, .slice ab nb cb, .slice ax ns cx, .slice af nf cf] 29) (.cells #[.int .i64 0, .int .i64 0, .slice none 0 0, .slice none 0 0, .slice none 0 0, .slice none 0 0, .slice none 0 0, .slice none 0 0] 40)
  obtain ⟨y0, hy0⟩ : ∃ y0, (w.alloc (.cells #[.int .i64 W, .int .i64 H, .slice al nl cl, .slice ad nd cd, .slice an nn cn, .slice ab nb cb, .slice ax ns cx, .slice af nf cf] 29)).alloc (.cells #[.int .i64 0, .int .i64 0, .slice none 0 0, .slice none 0 0, .slice none 0 0, .slice none 0 0, .slice none 0 0, .slice none 0 0] 40) = y0 := ⟨_, rfl⟩
  rw [hy0] at hR HUx ⊢
  clear hy0
  have HU0 := Lib.hid HUx
  clear HUx
  obtain ⟨hr0_0, hr0_1⟩ := hR
  go_cut [3] (fun s3 wx => ∃ (q : Nat) (a_l a_s a_f : Option Addr) (c_l c_s c_f : Nat), s3 = .pointer (some ⟨q, 0, none⟩) ∧ w.heap.size + 1 < q ∧ wx.heap[q]? = some (.cells #[.int .i64 W, .int .i64 H, .slice a_l nl c_l, .slice none 0 0, .slice none 0 0, .slice none 0 0, .slice a_s ns c_s, .slice a_f nf c_f] 40 (0, 0)) ∧ wx.heap[w.heap.size]? = some (.cells #[.int .i64 W, .int .i64 H, .slice al nl cl, .slice ad nd cd, .slice an nn cn, .slice ab nb cb, .slice ax ns cx, .slice af nf cf] 29 (0, 0)) ∧ wx.heap[w.heap.size + 1]? = some (.cells #[.int .i64 0, .int .i64 0, .slice none 0 0, .slice none 0 0, .slice none 0 0, .slice none 0 0, .slice none 0 0, .slice none 0 0] 40 (0, 0)) ∧ Hid (RwX q (w.heap.size + 1) 3 wx a_l nl L) ∧ Hid (RwX q (w.heap.size + 1) 1 wx a_s ns S) ∧ Hid (RwX q (w.heap.size + 1) 1 wx a_f nf F) ∧ Hid (Below w.heap.size w wx))
  case first =>
    refine Ol.way_drew (S := fun y => y.heap[w.heap.size]? = some (.cells #[.int .i64 W, .int .i64 H, .slice al nl cl, .slice ad nd cd, .slice an nn cn, .slice ab nb cb, .slice ax ns cx, .slice af nf cf] 29 (0, 0))) (stop := 13) (by as_aux_lemma => kernel_rfl) (hr0_0) (fun hS0 => ?_)
    obtain ⟨z0, hz0_⟩ : ∃ y, y0.drew = y := ⟨_, rfl⟩
    have HZ0 := Lib.hid (show Below w.heap.size w z0 by rw [← hz0_]; exact HU0.out.drew)
    have hR0 : z0.heap[w.heap.size + 1]? = some (.cells #[.int .i64 0, .int .i64 0, .slice none 0 0, .slice none 0 0, .slice none 0 0, .slice none 0 0, .slice none 0 0, .slice none 0 0] 40 (0, 0)) := by rw [← hz0_]; exact hr0_1
    rw [hz0_] at hS0 ⊢
    clear hz0_ HU0 hr0_0 hr0_1
    have HU0 := HZ0
    clear HZ0
    have hl0 := lt_heap hR0
    obtain ⟨j0, ji, jz0, jz1, jz2⟩ := info_parts info_int
    refine Ol.way_plain (i := 0) (v := ?_) rfl (by as_aux_lemma => kernel_rfl) (by as_aux_lemma => kernel_rfl) (by as_aux_lemma => kernel_rfl) (fun _ _ _ h => h) (by decide) (Or.inl ⟨by kernel_rfl, by (intro wz _; go_simp; try with_reducible rfl)⟩) (Ol.on hS0) ?_
    go_simp
    refine Ol.way_take (i := 1) (v := ?_) rfl (by as_aux_lemma => kernel_rfl) (by as_aux_lemma => kernel_rfl) (by as_aux_lemma => kernel_rfl) (fun _ _ _ h => h) (by decide) (by as_aux_lemma => kernel_rfl) (by as_aux_lemma => kernel_rfl) (Or.inl ⟨by kernel_rfl, by (intro wz hSz; have c0 := cell_of_row _ _ 0 _ _ _ hSz; have c1 := cell_of_row _ _ 1 _ _ _ hSz; have c2 := cell_of_row _ _ 2 _ _ _ hSz; have c6 := cell_of_row _ _ 6 _ _ _ hSz; have c7 := cell_of_row _ _ 7 _ _ _ hSz; simp at c0 c1 c2 c6 c7; go_simp; try with_reducible rfl)⟩) hS0 ?_
    go_simp
    refine Ol.way_plain (i := 4) (v := ?_) rfl (by as_aux_lemma => kernel_rfl) (by as_aux_lemma => kernel_rfl) (by as_aux_lemma => kernel_rfl) (fun _ _ _ h => h) (by decide) (Or.inl ⟨by kernel_rfl, by (intro wz _; go_simp; try with_reducible rfl)⟩) (Ol.on hS0) ?_
    go_simp
    refine Ol.way_take (i := 5) (v := ?_) rfl (by as_aux_lemma => kernel_rfl) (by as_aux_lemma => kernel_rfl) (by as_aux_lemma => kernel_rfl) (fun _ _ _ h => h) (by decide) (by as_aux_lemma => kernel_rfl) (by as_aux_lemma => kernel_rfl) (Or.inl ⟨by kernel_rfl, by (intro wz hSz; have c0 := cell_of_row _ _ 0 _ _ _ hSz; have c1 := cell_of_row _ _ 1 _ _ _ hSz; have c2 := cell_of_row _ _ 2 _ _ _ hSz; have c6 := cell_of_row _ _ 6 _ _ _ hSz; have c7 := cell_of_row _ _ 7 _ _ _ hSz; simp at c0 c1 c2 c6 c7; go_simp; try with_reducible rfl)⟩) hS0 ?_
    go_simp
    refine Ol.way_plain (i := 8) (v := ?_) rfl (by as_aux_lemma => kernel_rfl) (by as_aux_lemma => kernel_rfl) (by as_aux_lemma => kernel_rfl) (fun _ _ _ h => h) (by decide) (Or.inl ⟨by kernel_rfl, by (intro wz _; go_simp; try with_reducible rfl)⟩) (Ol.on hS0) ?_
    go_simp
    refine Ol.way_take (i := 9) (v := ?_) rfl (by as_aux_lemma => kernel_rfl) (by as_aux_lemma => kernel_rfl) (by as_aux_lemma => kernel_rfl) (fun _ _ _ h => h) (by decide) (by as_aux_lemma => kernel_rfl) (by as_aux_lemma => kernel_rfl) (Or.inl ⟨by kernel_rfl, by (intro wz hSz; have c0 := cell_of_row _ _ 0 _ _ _ hSz; have c1 := cell_of_row _ _ 1 _ _ _ hSz; have c2 := cell_of_row _ _ 2 _ _ _ hSz; have c6 := cell_of_row _ _ 6 _ _ _ hSz; have c7 := cell_of_row _ _ 7 _ _ _ hSz; simp at c0 c1 c2 c6 c7; go_simp; try with_reducible rfl)⟩) hS0 ?_
    go_simp
    refine Ol.way_ready (rs := [2, 3, 7, 12]) (by as_aux_lemma => kernel_rfl) (by simp) (Ol.Each.cons rfl (fun K hK => ?_) (Ol.Each.cons rfl (fun K hK => ?_) (Ol.Each.cons rfl (fun K hK => ?_) (Ol.Each.cons rfl (fun K hK => ?_) Ol.Each.nil))))
    · go_simp
      go_wp2_with (go_at_call 28; refine (tosheet_any W H al nl cl L _ (HL_.out.on HU0.out) bl).mono ?_; rintro e z1 ⟨⟨a_l, c_l, rfl, hla⟩, hb1⟩)
      have hs1 := hb1.size
      have HU1 := Lib.hid (HU0.out.trans (hb1.mono HU0.out.size))
      have hR1 := (hb1.block _ (lt_heap hR0)).trans hR0
      have RL1 := Lib.hid (RwP.weak (P' := fun b => z0.heap.size ≤ b ∧ b < z1.heap.size) (hla.lt (by decide)) (fun b hb => hb))
      clear hla
      refine Ol.keep hK _ _ ((hb1.block _ (lt_heap hS0)).trans hS0) (fun hS1 => ?_)
      clear hK K
      refine Ol.way_ready (rs := [3, 7, 12]) (by as_aux_lemma => kernel_rfl) (by simp) (Ol.Each.cons rfl (fun K hK => ?_) (Ol.Each.cons rfl (fun K hK => ?_) (Ol.Each.cons rfl (fun K hK => ?_) Ol.Each.nil)))
      · go_simp
        have hb2 := Ve.below_n1 z1 (.cells #[] 3)
        have hW2 := World.ownsRow_lit (e := 3) (size := 1) z1 #[] 0 (Nat.le_refl _) (by unfold maxLen; omega) rfl
        obtain ⟨z2, hz2_⟩ : ∃ y, z1.alloc (.cells #[] 3) = y := ⟨_, rfl⟩
        rw [hz2_] at hb2 hW2 ⊢
        clear hz2_
        have hs2 := hb2.size
        have HU2 := Lib.hid (HU1.out.trans (hb2.mono HU1.out.size))
        have hR2 := (hb2.block _ (lt_heap hR1)).trans hR1
        have RL2 := Lib.hid (RL1.out.keep (fun b hb => hb2.block b (by omega)))
        obtain ⟨A_, hA_⟩ : ∃ x, x = z1.heap.size := ⟨_, rfl⟩
        rw [← hA_] at hW2 ⊢
        have A2 := Lib.hid hW2
        have hltA2 := (hW2.lt A_ rfl).2
        have haA : A_ ≤ z1.heap.size := by omega
        have hb_A : z1.heap.size ≤ A_ := by omega
        clear hW2 hA_
        refine Ol.keep hK _ _ ((hb2.block _ (lt_heap hS1)).trans hS1) (fun hS2 => ?_)
        clear hK K
        refine Ol.way_ready (rs := [6, 7, 12]) (by as_aux_lemma => kernel_rfl) (by simp) (Ol.Each.cons rfl (fun K hK => ?_) (Ol.Each.cons rfl (fun K hK => ?_) (Ol.Each.cons rfl (fun K hK => ?_) Ol.Each.nil)))
        · refine app_int ji jz0 jz1 jz2 A_ A2.out HU2.out (by have := HU2.out.size; omega) ax cx S (HS_.out.on HU2.out) KS.out bs ⟨rfl, rfl⟩ ⟨rfl, rfl⟩ ?_
          intro a_s c_s z3 hgrow hs3 HU3 hRR
          have hR3 := (hgrow.block _ (lt_heap hR2) (by simp; omega)).trans hR2
          have RL3 := Lib.hid (RL2.out.keep (fun b hb => hgrow.block b (by omega) (by simp; omega)))
          have RA3 := Lib.hid hRR
          clear hRR
          refine Ol.keep hK _ _ ((hgrow.block _ (lt_heap hS2) (by simp; omega)).trans hS2) (fun hS3 => ?_)
          clear hK K
          refine Ol.way_ready (rs := [7, 12]) (by as_aux_lemma => kernel_rfl) (by simp) (Ol.Each.cons rfl (fun K hK => ?_) (Ol.Each.cons rfl (fun K hK => ?_) Ol.Each.nil))
          · go_simp
            have hb4 := Ve.below_n1 z3 (.cells #[] 3)
            have hW4 := World.ownsRow_lit (e := 3) (size := 1) z3 #[] 0 (Nat.le_refl _) (by unfold maxLen; omega) rfl
            obtain ⟨z4, hz4_⟩ : ∃ y, z3.alloc (.cells #[] 3) = y := ⟨_, rfl⟩
            rw [hz4_] at hb4 hW4 ⊢
            clear hz4_
            have hs4 := hb4.size
            have HU4 := Lib.hid (HU3.out.trans (hb4.mono HU3.out.size))
            have hR4 := (hb4.block _ (lt_heap hR3)).trans hR3
            have RL4 := Lib.hid (RL3.out.keep (fun b hb => hb4.block b (by omega)))
            have RA4 := Lib.hid (RA3.out.keep (fun b hb => hb4.block b (by omega)))
            obtain ⟨B_, hB_⟩ : ∃ x, x = z3.heap.size := ⟨_, rfl⟩
            rw [← hB_] at hW4 ⊢
            have B4 := Lib.hid hW4
            have hltB4 := (hW4.lt B_ rfl).2
            have haB : B_ ≤ z3.heap.size := by omega
            have hb_B : z3.heap.size ≤ B_ := by omega
            clear hW4 hB_
            refine Ol.keep hK _ _ ((hb4.block _ (lt_heap hS3)).trans hS3) (fun hS4 => ?_)
            clear hK K
            refine Ol.way_ready (rs := [10, 12]) (by as_aux_lemma => kernel_rfl) (by simp) (Ol.Each.cons rfl (fun K hK => ?_) (Ol.Each.cons rfl (fun K hK => ?_) Ol.Each.nil))
            · refine app_int ji jz0 jz1 jz2 B_ B4.out HU4.out (by have := HU4.out.size; omega) af cf F (HF_.out.on HU4.out) KF.out bf ⟨rfl, rfl⟩ ⟨rfl, rfl⟩ ?_
              intro a_f c_f z5 hgrow hs5 HU5 hRR
              have hR5 := (hgrow.block _ (lt_heap hR4) (by simp; omega)).trans hR4
              have RL5 := Lib.hid (RL4.out.keep (fun b hb => hgrow.block b (by omega) (by simp; omega)))
              have RA5 := Lib.hid (RA4.out.keep (fun b hb => hgrow.block b (by omega) (by simp; omega)))
              have RB5 := Lib.hid hRR
              clear hRR
              refine Ol.keep hK _ _ ((hgrow.block _ (lt_heap hS4) (by simp; omega)).trans hS4) (fun hS5 => ?_)
              clear hK K
              refine Ol.way_plain (i := 11) (v := ?_) rfl (by as_aux_lemma => kernel_rfl) (by as_aux_lemma => kernel_rfl) (by as_aux_lemma => kernel_rfl) (fun _ _ _ h => h) (by decide) (Or.inl ⟨by kernel_rfl, by (intro wz _; go_simp; try with_reducible rfl)⟩) (Ol.on hS5) ?_
              go_simp
              refine Ol.way_ready (rs := [12]) (by as_aux_lemma => kernel_rfl) (by simp) (Ol.Each.cons rfl (fun K hK => ?_) Ol.Each.nil)
              go_simp
              have hb6 := Ve.below_n1 z5 ZFo
              have hN := heap_alloc_last z5 ZFo
              obtain ⟨z6, hz6_⟩ : ∃ y, z5.alloc ZFo = y := ⟨_, rfl⟩
              rw [hz6_] at hb6 hN ⊢
              clear hz6_
              have hs6 := hb6.size
              have HU6 := Lib.hid (HU5.out.trans (hb6.mono HU5.out.size))
              have hR6 := (hb6.block _ (lt_heap hR5)).trans hR5
              have RL6 := Lib.hid (RL5.out.keep (fun b hb => hb6.block b (by omega)))
              have RA6 := Lib.hid (RA5.out.keep (fun b hb => hb6.block b (by omega)))
              have RB6 := Lib.hid (RB5.out.keep (fun b hb => hb6.block b (by omega)))
              obtain ⟨q, hq⟩ : ∃ q, q = z5.heap.size := ⟨_, rfl⟩
              rw [← hq] at hN ⊢
              have hQ6 := hN
              have hltq6 := lt_heap hN
              have hqa : q ≤ z5.heap.size := by omega
              have hqb : z5.heap.size ≤ q := by omega
              clear hN hq
              refine Ol.keep hK _ _ ((hb6.block _ (lt_heap hS5)).trans hS5) (fun hS6 => ?_)
              clear hK K
              refine Ol.way_ready (rs := [13]) (by as_aux_lemma => kernel_rfl) (by simp) (Ol.Each.cons rfl (fun K hK => ?_) Ol.Each.nil)
              refine step_store_row rfl 40 (.tmp 3) (.tmp 21) rfl _ (cqf W H a_l nl c_l a_s ns c_s a_f nf c_f) q 40 hQ6 rfl (by first | rfl | (go_simp; done) | (go_simp; rfl)) (by as_aux_lemma => kernel_rfl) rfl (by simp [Value.oneCell']) ?_
              have HC_ := Lib.hid (to_close (CQ := (cqf W H a_l nl c_l a_s ns c_s a_f nf c_f)) hQ6 hS6 hR6 HU6.out (by omega) (RL6.out.weak (fun b hb => by omega)) (RA6.out.weak (fun b hb => by omega)) (RB6.out.weak (fun b hb => by omega)))
              refine Ol.past hK (by as_aux_lemma => kernel_rfl) _ _ ?_
              clear hK K
              refine Ol.way_done (by as_aux_lemma => kernel_rfl) ?_ _
              go_wp2_with fail
              go_meet
              exact ⟨q, a_l, a_s, a_f, c_l, c_s, c_f, rfl, by omega, HC_.out⟩
            · go_simp
              have hb5 := Ve.below_n1 z4 ZFo
              have hN := heap_alloc_last z4 ZFo
              obtain ⟨z5, hz5_⟩ : ∃ y, z4.alloc ZFo = y := ⟨_, rfl⟩
              rw [hz5_] at hb5 hN ⊢
              clear hz5_
              have hs5 := hb5.size
              have HU5 := Lib.hid (HU4.out.trans (hb5.mono HU4.out.size))
              have hR5 := (hb5.block _ (lt_heap hR4)).trans hR4
              have RL5 := Lib.hid (RL4.out.keep (fun b hb => hb5.block b (by omega)))
              have RA5 := Lib.hid (RA4.out.keep (fun b hb => hb5.block b (by omega)))
              have B5 := Lib.hid (own_via (w' := z5) B4.out (fun r hr => by simp [Value.ownBlock] at hr; subst hr; exact hb5.block _ (by omega)))
              obtain ⟨q, hq⟩ : ∃ q, q = z4.heap.size := ⟨_, rfl⟩
              rw [← hq] at hN ⊢
              have hQ5 := hN
              have hltq5 := lt_heap hN
              have hqa : q ≤ z4.heap.size := by omega
              have hqb : z4.heap.size ≤ q := by omega
              clear hN hq
              refine Ol.keep hK _ _ ((hb5.block _ (lt_heap hS4)).trans hS4) (fun hS5 => ?_)
              clear hK K
              refine Ol.way_ready (rs := [10]) (by as_aux_lemma => kernel_rfl) (by simp) (Ol.Each.cons rfl (fun K hK => ?_) Ol.Each.nil)
              refine app_int ji jz0 jz1 jz2 B_ B5.out HU5.out (by have := HU5.out.size; omega) af cf F (HF_.out.on HU5.out) KF.out bf ⟨rfl, rfl⟩ ⟨rfl, rfl⟩ ?_
              intro a_f c_f z6 hgrow hs6 HU6 hRR
              have hR6 := (hgrow.block _ (lt_heap hR5) (by simp; omega)).trans hR5
              have RL6 := Lib.hid (RL5.out.keep (fun b hb => hgrow.block b (by omega) (by simp; omega)))
              have RA6 := Lib.hid (RA5.out.keep (fun b hb => hgrow.block b (by omega) (by simp; omega)))
              have hQ6 := (hgrow.block _ (lt_heap hQ5) (by simp; omega)).trans hQ5
              have RB6 := Lib.hid hRR
              clear hRR
              refine Ol.keep hK _ _ ((hgrow.block _ (lt_heap hS5) (by simp; omega)).trans hS5) (fun hS6 => ?_)
              clear hK K
              refine Ol.way_plain (i := 11) (v := ?_) rfl (by as_aux_lemma => kernel_rfl) (by as_aux_lemma => kernel_rfl) (by as_aux_lemma => kernel_rfl) (fun _ _ _ h => h) (by decide) (Or.inl ⟨by kernel_rfl, by (intro wz _; go_simp; try with_reducible rfl)⟩) (Ol.on hS6) ?_
              go_simp
              refine Ol.way_ready (rs := [13]) (by as_aux_lemma => kernel_rfl) (by simp) (Ol.Each.cons rfl (fun K hK => ?_) Ol.Each.nil)
              refine step_store_row rfl 40 (.tmp 3) (.tmp 21) rfl _ (cqf W H a_l nl c_l a_s ns c_s a_f nf c_f) q 40 hQ6 rfl (by first | rfl | (go_simp; done) | (go_simp; rfl)) (by as_aux_lemma => kernel_rfl) rfl (by simp [Value.oneCell']) ?_
              have HC_ := Lib.hid (to_close (CQ := (cqf W H a_l nl c_l a_s ns c_s a_f nf c_f)) hQ6 hS6 hR6 HU6.out (by omega) (RL6.out.weak (fun b hb => by omega)) (RA6.out.weak (fun b hb => by omega)) (RB6.out.weak (fun b hb => by omega)))
              refine Ol.past hK (by as_aux_lemma => kernel_rfl) _ _ ?_
              clear hK K
              refine Ol.way_done (by as_aux_lemma => kernel_rfl) ?_ _
              go_wp2_with fail
              go_meet
              exact ⟨q, a_l, a_s, a_f, c_l, c_s, c_f, rfl, by omega, HC_.out⟩
          · go_simp
            have hb4 := Ve.below_n1 z3 ZFo
            have hN := heap_alloc_last z3 ZFo
            obtain ⟨z4, hz4_⟩ : ∃ y, z3.alloc ZFo = y := ⟨_, rfl⟩
            rw [hz4_] at hb4 hN ⊢
            clear hz4_
            have hs4 := hb4.size
            have HU4 := Lib.hid (HU3.out.trans (hb4.mono HU3.out.size))
            have hR4 := (hb4.block _ (lt_heap hR3)).trans hR3
            have RL4 := Lib.hid (RL3.out.keep (fun b hb => hb4.block b (by omega)))
            have RA4 := Lib.hid (RA3.out.keep (fun b hb => hb4.block b (by omega)))
            obtain ⟨q, hq⟩ : ∃ q, q = z3.heap.size := ⟨_, rfl⟩
            rw [← hq] at hN ⊢
            have hQ4 := hN
            have hltq4 := lt_heap hN
            have hqa : q ≤ z3.heap.size := by omega
            have hqb : z3.heap.size ≤ q := by omega
            clear hN hq
            refine Ol.keep hK _ _ ((hb4.block _ (lt_heap hS3)).trans hS3) (fun hS4 => ?_)
            clear hK K
            refine Ol.way_ready (rs := [7]) (by as_aux_lemma => kernel_rfl) (by simp) (Ol.Each.cons rfl (fun K hK => ?_) Ol.Each.nil)
            go_simp
            have hb5 := Ve.below_n1 z4 (.cells #[] 3)
            have hW5 := World.ownsRow_lit (e := 3) (size := 1) z4 #[] 0 (Nat.le_refl _) (by unfold maxLen; omega) rfl
            obtain ⟨z5, hz5_⟩ : ∃ y, z4.alloc (.cells #[] 3) = y := ⟨_, rfl⟩
            rw [hz5_] at hb5 hW5 ⊢
            clear hz5_
            have hs5 := hb5.size
            have HU5 := Lib.hid (HU4.out.trans (hb5.mono HU4.out.size))
            have hR5 := (hb5.block _ (lt_heap hR4)).trans hR4
            have RL5 := Lib.hid (RL4.out.keep (fun b hb => hb5.block b (by omega)))
            have RA5 := Lib.hid (RA4.out.keep (fun b hb => hb5.block b (by omega)))
            have hQ5 := (hb5.block _ (lt_heap hQ4)).trans hQ4
            obtain ⟨B_, hB_⟩ : ∃ x, x = z4.heap.size := ⟨_, rfl⟩
            rw [← hB_] at hW5 ⊢
            have B5 := Lib.hid hW5
            have hltB5 := (hW5.lt B_ rfl).2
            have haB : B_ ≤ z4.heap.size := by omega
            have hb_B : z4.heap.size ≤ B_ := by omega
            clear hW5 hB_
            refine Ol.keep hK _ _ ((hb5.block _ (lt_heap hS4)).trans hS4) (fun hS5 => ?_)
            clear hK K
            refine Ol.way_ready (rs := [10]) (by as_aux_lemma => kernel_rfl) (by simp) (Ol.Each.cons rfl (fun K hK => ?_) Ol.Each.nil)
            refine app_int ji jz0 jz1 jz2 B_ B5.out HU5.out (by have := HU5.out.size; omega) af cf F (HF_.out.on HU5.out) KF.out bf ⟨rfl, rfl⟩ ⟨rfl, rfl⟩ ?_
            intro a_f c_f z6 hgrow hs6 HU6 hRR
            have hR6 := (hgrow.block _ (lt_heap hR5) (by simp; omega)).trans hR5
            have RL6 := Lib.hid (RL5.out.keep (fun b hb => hgrow.block b (by omega) (by simp; omega)))
            have RA6 := Lib.hid (RA5.out.keep (fun b hb => hgrow.block b (by omega) (by simp; omega)))
            have hQ6 := (hgrow.block _ (lt_heap hQ5) (by simp; omega)).trans hQ5
            have RB6 := Lib.hid hRR
            clear hRR
            refine Ol.keep hK _ _ ((hgrow.block _ (lt_heap hS5) (by simp; omega)).trans hS5) (fun hS6 => ?_)
            clear hK K
            refine Ol.way_plain (i := 11) (v := ?_) rfl (by as_aux_lemma => kernel_rfl) (by as_aux_lemma => kernel_rfl) (by as_aux_lemma => kernel_rfl) (fun _ _ _ h => h) (by decide) (Or.inl ⟨by kernel_rfl, by (intro wz _; go_simp; try with_reducible rfl)⟩) (Ol.on hS6) ?_
            go_simp
            refine Ol.way_ready (rs := [13]) (by as_aux_lemma => kernel_rfl) (by simp) (Ol.Each.cons rfl (fun K hK => ?_) Ol.Each.nil)
            refine step_store_row rfl 40 (.tmp 3) (.tmp 21) rfl _ (cqf W H a_l nl c_l a_s ns c_s a_f nf c_f) q 40 hQ6 rfl (by first | rfl | (go_simp; done) | (go_simp; rfl)) (by as_aux_lemma => kernel_rfl) rfl (by simp [Value.oneCell']) ?_
            have HC_ := Lib.hid (to_close (CQ := (cqf W H a_l nl c_l a_s ns c_s a_f nf c_f)) hQ6 hS6 hR6 HU6.out (by omega) (RL6.out.weak (fun b hb => by omega)) (RA6.out.weak (fun b hb => by omega)) (RB6.out.weak (fun b hb => by omega)))
            refine Ol.past hK (by as_aux_lemma => kernel_rfl) _ _ ?_
            clear hK K
            refine Ol.way_done (by as_aux_lemma => kernel_rfl) ?_ _
            go_wp2_with fail
            go_meet
            exact ⟨q, a_l, a_s, a_f, c_l, c_s, c_f, rfl, by omega, HC_.out⟩
        · go_simp
          have hb3 := Ve.below_n1 z2 (.cells #[] 3)
          have hW3 := World.ownsRow_lit (e := 3) (size := 1) z2 #[] 0 (Nat.le_refl _) (by unfold maxLen; omega) rfl
          obtain ⟨z3, hz3_⟩ : ∃ y, z2.alloc (.cells #[] 3) = y := ⟨_, rfl⟩
          rw [hz3_] at hb3 hW3 ⊢
          clear hz3_
          have hs3 := hb3.size
          have HU3 := Lib.hid (HU2.out.trans (hb3.mono HU2.out.size))
          have hR3 := (hb3.block _ (lt_heap hR2)).trans hR2
          have RL3 := Lib.hid (RL2.out.keep (fun b hb => hb3.block b (by omega)))
          have A3 := Lib.hid (own_via (w' := z3) A2.out (fun r hr => by simp [Value.ownBlock] at hr; subst hr; exact hb3.block _ (by omega)))
          obtain ⟨B_, hB_⟩ : ∃ x, x = z2.heap.size := ⟨_, rfl⟩
          rw [← hB_] at hW3 ⊢
          have B3 := Lib.hid hW3
          have hltB3 := (hW3.lt B_ rfl).2
          have haB : B_ ≤ z2.heap.size := by omega
          have hb_B : z2.heap.size ≤ B_ := by omega
          clear hW3 hB_
          refine Ol.keep hK _ _ ((hb3.block _ (lt_heap hS2)).trans hS2) (fun hS3 => ?_)
          clear hK K
          refine Ol.way_ready (rs := [6, 12]) (by as_aux_lemma => kernel_rfl) (by simp) (Ol.Each.cons rfl (fun K hK => ?_) (Ol.Each.cons rfl (fun K hK => ?_) Ol.Each.nil))
          · refine app_int ji jz0 jz1 jz2 A_ A3.out HU3.out (by have := HU3.out.size; omega) ax cx S (HS_.out.on HU3.out) KS.out bs ⟨rfl, rfl⟩ ⟨rfl, rfl⟩ ?_
            intro a_s c_s z4 hgrow hs4 HU4 hRR
            have hR4 := (hgrow.block _ (lt_heap hR3) (by simp; omega)).trans hR3
            have RL4 := Lib.hid (RL3.out.keep (fun b hb => hgrow.block b (by omega) (by simp; omega)))
            have B4 := Lib.hid (own_via (w' := z4) B3.out (fun r hr => by simp [Value.ownBlock] at hr; subst hr; exact hgrow.block _ (by omega) (by simp; omega)))
            have RA4 := Lib.hid hRR
            clear hRR
            refine Ol.keep hK _ _ ((hgrow.block _ (lt_heap hS3) (by simp; omega)).trans hS3) (fun hS4 => ?_)
            clear hK K
            refine Ol.way_ready (rs := [10, 12]) (by as_aux_lemma => kernel_rfl) (by simp) (Ol.Each.cons rfl (fun K hK => ?_) (Ol.Each.cons rfl (fun K hK => ?_) Ol.Each.nil))
            · refine app_int ji jz0 jz1 jz2 B_ B4.out HU4.out (by have := HU4.out.size; omega) af cf F (HF_.out.on HU4.out) KF.out bf ⟨rfl, rfl⟩ ⟨rfl, rfl⟩ ?_
              intro a_f c_f z5 hgrow hs5 HU5 hRR
              have hR5 := (hgrow.block _ (lt_heap hR4) (by simp; omega)).trans hR4
              have RL5 := Lib.hid (RL4.out.keep (fun b hb => hgrow.block b (by omega) (by simp; omega)))
              have RA5 := Lib.hid (RA4.out.keep (fun b hb => hgrow.block b (by omega) (by simp; omega)))
              have RB5 := Lib.hid hRR
              clear hRR
              refine Ol.keep hK _ _ ((hgrow.block _ (lt_heap hS4) (by simp; omega)).trans hS4) (fun hS5 => ?_)
              clear hK K
              refine Ol.way_plain (i := 11) (v := ?_) rfl (by as_aux_lemma => kernel_rfl) (by as_aux_lemma => kernel_rfl) (by as_aux_lemma => kernel_rfl) (fun _ _ _ h => h) (by decide) (Or.inl ⟨by kernel_rfl, by (intro wz _; go_simp; try with_reducible rfl)⟩) (Ol.on hS5) ?_
              go_simp
              refine Ol.way_ready (rs := [12]) (by as_aux_lemma => kernel_rfl) (by simp) (Ol.Each.cons rfl (fun K hK => ?_) Ol.Each.nil)
              go_simp
              have hb6 := Ve.below_n1 z5 ZFo
              have hN := heap_alloc_last z5 ZFo
              obtain ⟨z6, hz6_⟩ : ∃ y, z5.alloc ZFo = y := ⟨_, rfl⟩
              rw [hz6_] at hb6 hN ⊢
              clear hz6_
              have hs6 := hb6.size
              have HU6 := Lib.hid (HU5.out.trans (hb6.mono HU5.out.size))
              have hR6 := (hb6.block _ (lt_heap hR5)).trans hR5
              have RL6 := Lib.hid (RL5.out.keep (fun b hb => hb6.block b (by omega)))
              have RA6 := Lib.hid (RA5.out.keep (fun b hb => hb6.block b (by omega)))
              have RB6 := Lib.hid (RB5.out.keep (fun b hb => hb6.block b (by omega)))
              obtain ⟨q, hq⟩ : ∃ q, q = z5.heap.size := ⟨_, rfl⟩
              rw [← hq] at hN ⊢
              have hQ6 := hN
              have hltq6 := lt_heap hN
              have hqa : q ≤ z5.heap.size := by omega
              have hqb : z5.heap.size ≤ q := by omega
              clear hN hq
              refine Ol.keep hK _ _ ((hb6.block _ (lt_heap hS5)).trans hS5) (fun hS6 => ?_)
              clear hK K
              refine Ol.way_ready (rs := [13]) (by as_aux_lemma => kernel_rfl) (by simp) (Ol.Each.cons rfl (fun K hK => ?_) Ol.Each.nil)
              refine step_store_row rfl 40 (.tmp 3) (.tmp 21) rfl _ (cqf W H a_l nl c_l a_s ns c_s a_f nf c_f) q 40 hQ6 rfl (by first | rfl | (go_simp; done) | (go_simp; rfl)) (by as_aux_lemma => kernel_rfl) rfl (by simp [Value.oneCell']) ?_
              have HC_ := Lib.hid (to_close (CQ := (cqf W H a_l nl c_l a_s ns c_s a_f nf c_f)) hQ6 hS6 hR6 HU6.out (by omega) (RL6.out.weak (fun b hb => by omega)) (RA6.out.weak (fun b hb => by omega)) (RB6.out.weak (fun b hb => by omega)))
              refine Ol.past hK (by as_aux_lemma => kernel_rfl) _ _ ?_
              clear hK K
              refine Ol.way_done (by as_aux_lemma => kernel_rfl) ?_ _
              go_wp2_with fail
              go_meet
              exact ⟨q, a_l, a_s, a_f, c_l, c_s, c_f, rfl, by omega, HC_.out⟩
            · go_simp
              have hb5 := Ve.below_n1 z4 ZFo
              have hN := heap_alloc_last z4 ZFo
              obtain ⟨z5, hz5_⟩ : ∃ y, z4.alloc ZFo = y := ⟨_, rfl⟩
              rw [hz5_] at hb5 hN ⊢
              clear hz5_
              have hs5 := hb5.size
              have HU5 := Lib.hid (HU4.out.trans (hb5.mono HU4.out.size))
              have hR5 := (hb5.block _ (lt_heap hR4)).trans hR4
              have RL5 := Lib.hid (RL4.out.keep (fun b hb => hb5.block b (by omega)))
              have B5 := Lib.hid (own_via (w' := z5) B4.out (fun r hr => by simp [Value.ownBlock] at hr; subst hr; exact hb5.block _ (by omega)))
              have RA5 := Lib.hid (RA4.out.keep (fun b hb => hb5.block b (by omega)))
              obtain ⟨q, hq⟩ : ∃ q, q = z4.heap.size := ⟨_, rfl⟩
              rw [← hq] at hN ⊢
              have hQ5 := hN
              have hltq5 := lt_heap hN
              have hqa : q ≤ z4.heap.size := by omega
              have hqb : z4.heap.size ≤ q := by omega
              clear hN hq
              refine Ol.keep hK _ _ ((hb5.block _ (lt_heap hS4)).trans hS4) (fun hS5 => ?_)
              clear hK K
              refine Ol.way_ready (rs := [10]) (by as_aux_lemma => kernel_rfl) (by simp) (Ol.Each.cons rfl (fun K hK => ?_) Ol.Each.nil)
              refine app_int ji jz0 jz1 jz2 B_ B5.out HU5.out (by have := HU5.out.size; omega) af cf F (HF_.out.on HU5.out) KF.out bf ⟨rfl, rfl⟩ ⟨rfl, rfl⟩ ?_
              intro a_f c_f z6 hgrow hs6 HU6 hRR
              have hR6 := (hgrow.block _ (lt_heap hR5) (by simp; omega)).trans hR5
              have RL6 := Lib.hid (RL5.out.keep (fun b hb => hgrow.block b (by omega) (by simp; omega)))
              have RA6 := Lib.hid (RA5.out.keep (fun b hb => hgrow.block b (by omega) (by simp; omega)))
              have hQ6 := (hgrow.block _ (lt_heap hQ5) (by simp; omega)).trans hQ5
              have RB6 := Lib.hid hRR
              clear hRR
              refine Ol.keep hK _ _ ((hgrow.block _ (lt_heap hS5) (by simp; omega)).trans hS5) (fun hS6 => ?_)
              clear hK K
              refine Ol.way_plain (i := 11) (v := ?_) rfl (by as_aux_lemma => kernel_rfl) (by as_aux_lemma => kernel_rfl) (by as_aux_lemma => kernel_rfl) (fun _ _ _ h => h) (by decide) (Or.inl ⟨by kernel_rfl, by (intro wz _; go_simp; try with_reducible rfl)⟩) (Ol.on hS6) ?_
              go_simp
              refine Ol.way_ready (rs := [13]) (by as_aux_lemma => kernel_rfl) (by simp) (Ol.Each.cons rfl (fun K hK => ?_) Ol.Each.nil)
              refine step_store_row rfl 40 (.tmp 3) (.tmp 21) rfl _ (cqf W H a_l nl c_l a_s ns c_s a_f nf c_f) q 40 hQ6 rfl (by first | rfl | (go_simp; done) | (go_simp; rfl)) (by as_aux_lemma => kernel_rfl) rfl (by simp [Value.oneCell']) ?_
              have HC_ := Lib.hid (to_close (CQ := (cqf W H a_l nl c_l a_s ns c_s a_f nf c_f)) hQ6 hS6 hR6 HU6.out (by omega) (RL6.out.weak (fun b hb => by omega)) (RA6.out.weak (fun b hb => by omega)) (RB6.out.weak (fun b hb => by omega)))
              refine Ol.past hK (by as_aux_lemma => kernel_rfl) _ _ ?_
              clear hK K
              refine Ol.way_done (by as_aux_lemma => kernel_rfl) ?_ _
              go_wp2_with fail
              go_meet
              exact ⟨q, a_l, a_s, a_f, c_l, c_s, c_f, rfl, by omega, HC_.out⟩
          · go_simp
            have hb4 := Ve.below_n1 z3 ZFo
            have hN := heap_alloc_last z3 ZFo
            obtain ⟨z4, hz4_⟩ : ∃ y, z3.alloc ZFo = y := ⟨_, rfl⟩
            rw [hz4_] at hb4 hN ⊢
            clear hz4_
            have hs4 := hb4.size
            have HU4 := Lib.hid (HU3.out.trans (hb4.mono HU3.out.size))
            have hR4 := (hb4.block _ (lt_heap hR3)).trans hR3
            have RL4 := Lib.hid (RL3.out.keep (fun b hb => hb4.block b (by omega)))
            have A4 := Lib.hid (own_via (w' := z4) A3.out (fun r hr => by simp [Value.ownBlock] at hr; subst hr; exact hb4.block _ (by omega)))
            have B4 := Lib.hid (own_via (w' := z4) B3.out (fun r hr => by simp [Value.ownBlock] at hr; subst hr; exact hb4.block _ (by omega)))
            obtain ⟨q, hq⟩ : ∃ q, q = z3.heap.size := ⟨_, rfl⟩
            rw [← hq] at hN ⊢
            have hQ4 := hN
            have hltq4 := lt_heap hN
            have hqa : q ≤ z3.heap.size := by omega
            have hqb : z3.heap.size ≤ q := by omega
            clear hN hq
            refine Ol.keep hK _ _ ((hb4.block _ (lt_heap hS3)).trans hS3) (fun hS4 => ?_)
            clear hK K
            refine Ol.way_ready (rs := [6]) (by as_aux_lemma => kernel_rfl) (by simp) (Ol.Each.cons rfl (fun K hK => ?_) Ol.Each.nil)
            refine app_int ji jz0 jz1 jz2 A_ A4.out HU4.out (by have := HU4.out.size; omega) ax cx S (HS_.out.on HU4.out) KS.out bs ⟨rfl, rfl⟩ ⟨rfl, rfl⟩ ?_
            intro a_s c_s z5 hgrow hs5 HU5 hRR
            have hR5 := (hgrow.block _ (lt_heap hR4) (by simp; omega)).trans hR4
            have RL5 := Lib.hid (RL4.out.keep (fun b hb => hgrow.block b (by omega) (by simp; omega)))
            have B5 := Lib.hid (own_via (w' := z5) B4.out (fun r hr => by simp [Value.ownBlock] at hr; subst hr; exact hgrow.block _ (by omega) (by simp; omega)))
            have hQ5 := (hgrow.block _ (lt_heap hQ4) (by simp; omega)).trans hQ4
            have RA5 := Lib.hid hRR
            clear hRR
            refine Ol.keep hK _ _ ((hgrow.block _ (lt_heap hS4) (by simp; omega)).trans hS4) (fun hS5 => ?_)
            clear hK K
            refine Ol.way_ready (rs := [10]) (by as_aux_lemma => kernel_rfl) (by simp) (Ol.Each.cons rfl (fun K hK => ?_) Ol.Each.nil)
            refine app_int ji jz0 jz1 jz2 B_ B5.out HU5.out (by have := HU5.out.size; omega) af cf F (HF_.out.on HU5.out) KF.out bf ⟨rfl, rfl⟩ ⟨rfl, rfl⟩ ?_
            intro a_f c_f z6 hgrow hs6 HU6 hRR
            have hR6 := (hgrow.block _ (lt_heap hR5) (by simp; omega)).trans hR5
            have RL6 := Lib.hid (RL5.out.keep (fun b hb => hgrow.block b (by omega) (by simp; omega)))
            have hQ6 := (hgrow.block _ (lt_heap hQ5) (by simp; omega)).trans hQ5
            have RA6 := Lib.hid (RA5.out.keep (fun b hb => hgrow.block b (by omega) (by simp; omega)))
            have RB6 := Lib.hid hRR
            clear hRR
            refine Ol.keep hK _ _ ((hgrow.block _ (lt_heap hS5) (by simp; omega)).trans hS5) (fun hS6 => ?_)
            clear hK K
            refine Ol.way_plain (i := 11) (v := ?_) rfl (by as_aux_lemma => kernel_rfl) (by as_aux_lemma => kernel_rfl) (by as_aux_lemma => kernel_rfl) (fun _ _ _ h => h) (by decide) (Or.inl ⟨by kernel_rfl, by (intro wz _; go_simp; try with_reducible rfl)⟩) (Ol.on hS6) ?_
            go_simp
            refine Ol.way_ready (rs := [13]) (by as_aux_lemma => kernel_rfl) (by simp) (Ol.Each.cons rfl (fun K hK => ?_) Ol.Each.nil)
            refine step_store_row rfl 40 (.tmp 3) (.tmp 21) rfl _ (cqf W H a_l nl c_l a_s ns c_s a_f nf c_f) q 40 hQ6 rfl (by first | rfl | (go_simp; done) | (go_simp; rfl)) (by as_aux_lemma => kernel_rfl) rfl (by simp [Value.oneCell']) ?_
            have HC_ := Lib.hid (to_close (CQ := (cqf W H a_l nl c_l a_s ns c_s a_f nf c_f)) hQ6 hS6 hR6 HU6.out (by omega) (RL6.out.weak (fun b hb => by omega)) (RA6.out.weak (fun b hb => by omega)) (RB6.out.weak (fun b hb => by omega)))
            refine Ol.past hK (by as_aux_lemma => kernel_rfl) _ _ ?_
            clear hK K
            refine Ol.way_done (by as_aux_lemma => kernel_rfl) ?_ _
            go_wp2_with fail
            go_meet
            exact ⟨q, a_l, a_s, a_f, c_l, c_s, c_f, rfl, by omega, HC_.out⟩
        · go_simp
          have hb3 := Ve.below_n1 z2 ZFo
          have hN := heap_alloc_last z2 ZFo
          obtain ⟨z3, hz3_⟩ : ∃ y, z2.alloc ZFo = y := ⟨_, rfl⟩
          rw [hz3_] at hb3 hN ⊢
          clear hz3_
          have hs3 := hb3.size
          have HU3 := Lib.hid (HU2.out.trans (hb3.mono HU2.out.size))
          have hR3 := (hb3.block _ (lt_heap hR2)).trans hR2
          have RL3 := Lib.hid (RL2.out.keep (fun b hb => hb3.block b (by omega)))
          have A3 := Lib.hid (own_via (w' := z3) A2.out (fun r hr => by simp [Value.ownBlock] at hr; subst hr; exact hb3.block _ (by omega)))
          obtain ⟨q, hq⟩ : ∃ q, q = z2.heap.size := ⟨_, rfl⟩
          rw [← hq] at hN ⊢
          have hQ3 := hN
          have hltq3 := lt_heap hN
          have hqa : q ≤ z2.heap.size := by omega
          have hqb : z2.heap.size ≤ q := by omega
          clear hN hq
          refine Ol.keep hK _ _ ((hb3.block _ (lt_heap hS2)).trans hS2) (fun hS3 => ?_)
          clear hK K
          refine Ol.way_ready (rs := [6, 7]) (by as_aux_lemma => kernel_rfl) (by simp) (Ol.Each.cons rfl (fun K hK => ?_) (Ol.Each.cons rfl (fun K hK => ?_) Ol.Each.nil))
          · refine app_int ji jz0 jz1 jz2 A_ A3.out HU3.out (by have := HU3.out.size; omega) ax cx S (HS_.out.on HU3.out) KS.out bs ⟨rfl, rfl⟩ ⟨rfl, rfl⟩ ?_
            intro a_s c_s z4 hgrow hs4 HU4 hRR
            have hR4 := (hgrow.block _ (lt_heap hR3) (by simp; omega)).trans hR3
            have RL4 := Lib.hid (RL3.out.keep (fun b hb => hgrow.block b (by omega) (by simp; omega)))
            have hQ4 := (hgrow.block _ (lt_heap hQ3) (by simp; omega)).trans hQ3
            have RA4 := Lib.hid hRR
            clear hRR
            refine Ol.keep hK _ _ ((hgrow.block _ (lt_heap hS3) (by simp; omega)).trans hS3) (fun hS4 => ?_)
            clear hK K
            refine Ol.way_ready (rs := [7]) (by as_aux_lemma => kernel_rfl) (by simp) (Ol.Each.cons rfl (fun K hK => ?_) Ol.Each.nil)
            go_simp
            have hb5 := Ve.below_n1 z4 (.cells #[] 3)
            have hW5 := World.ownsRow_lit (e := 3) (size := 1) z4 #[] 0 (Nat.le_refl _) (by unfold maxLen; omega) rfl
            obtain ⟨z5, hz5_⟩ : ∃ y, z4.alloc (.cells #[] 3) = y := ⟨_, rfl⟩
            rw [hz5_] at hb5 hW5 ⊢
            clear hz5_
            have hs5 := hb5.size
            have HU5 := Lib.hid (HU4.out.trans (hb5.mono HU4.out.size))
            have hR5 := (hb5.block _ (lt_heap hR4)).trans hR4
            have RL5 := Lib.hid (RL4.out.keep (fun b hb => hb5.block b (by omega)))
            have hQ5 := (hb5.block _ (lt_heap hQ4)).trans hQ4
            have RA5 := Lib.hid (RA4.out.keep (fun b hb => hb5.block b (by omega)))
            obtain ⟨B_, hB_⟩ : ∃ x, x = z4.heap.size := ⟨_, rfl⟩
            rw [← hB_] at hW5 ⊢
            have B5 := Lib.hid hW5
            have hltB5 := (hW5.lt B_ rfl).2
            have haB : B_ ≤ z4.heap.size := by omega
            have hb_B : z4.heap.size ≤ B_ := by omega
            clear hW5 hB_
            refine Ol.keep hK _ _ ((hb5.block _ (lt_heap hS4)).trans hS4) (fun hS5 => ?_)
            clear hK K
            refine Ol.way_ready (rs := [10]) (by as_aux_lemma => kernel_rfl) (by simp) (Ol.Each.cons rfl (fun K hK => ?_) Ol.Each.nil)
            refine app_int ji jz0 jz1 jz2 B_ B5.out HU5.out (by have := HU5.out.size; omega) af cf F (HF_.out.on HU5.out) KF.out bf ⟨rfl, rfl⟩ ⟨rfl, rfl⟩ ?_
            intro a_f c_f z6 hgrow hs6 HU6 hRR
            have hR6 := (hgrow.block _ (lt_heap hR5) (by simp; omega)).trans hR5
            have RL6 := Lib.hid (RL5.out.keep (fun b hb => hgrow.block b (by omega) (by simp; omega)))
            have hQ6 := (hgrow.block _ (lt_heap hQ5) (by simp; omega)).trans hQ5
            have RA6 := Lib.hid (RA5.out.keep (fun b hb => hgrow.block b (by omega) (by simp; omega)))
            have RB6 := Lib.hid hRR
            clear hRR
            refine Ol.keep hK _ _ ((hgrow.block _ (lt_heap hS5) (by simp; omega)).trans hS5) (fun hS6 => ?_)
            clear hK K
            refine Ol.way_plain (i := 11) (v := ?_) rfl (by as_aux_lemma => kernel_rfl) (by as_aux_lemma => kernel_rfl) (by as_aux_lemma => kernel_rfl) (fun _ _ _ h => h) (by decide) (Or.inl ⟨by kernel_rfl, by (intro wz _; go_simp; try with_reducible rfl)⟩) (Ol.on hS6) ?_
            go_simp
            refine Ol.way_ready (rs := [13]) (by as_aux_lemma => kernel_rfl) (by simp) (Ol.Each.cons rfl (fun K hK => ?_) Ol.Each.nil)
            refine step_store_row rfl 40 (.tmp 3) (.tmp 21) rfl _ (cqf W H a_l nl c_l a_s ns c_s a_f nf c_f) q 40 hQ6 rfl (by first | rfl | (go_simp; done) | (go_simp; rfl)) (by as_aux_lemma => kernel_rfl) rfl (by simp [Value.oneCell']) ?_
            have HC_ := Lib.hid (to_close (CQ := (cqf W H a_l nl c_l a_s ns c_s a_f nf c_f)) hQ6 hS6 hR6 HU6.out (by omega) (RL6.out.weak (fun b hb => by omega)) (RA6.out.weak (fun b hb => by omega)) (RB6.out.weak (fun b hb => by omega)))
            refine Ol.past hK (by as_aux_lemma => kernel_rfl) _ _ ?_
            clear hK K
            refine Ol.way_done (by as_aux_lemma => kernel_rfl) ?_ _
            go_wp2_with fail
            go_meet
            exact ⟨q, a_l, a_s, a_f, c_l, c_s, c_f, rfl, by omega, HC_.out⟩
          · go_simp
            have hb4 := Ve.below_n1 z3 (.cells #[] 3)
            have hW4 := World.ownsRow_lit (e := 3) (size := 1) z3 #[] 0 (Nat.le_refl _) (by unfold maxLen; omega) rfl
            obtain ⟨z4, hz4_⟩ : ∃ y, z3.alloc (.cells #[] 3) = y := ⟨_, rfl⟩
            rw [hz4_] at hb4 hW4 ⊢
            clear hz4_
            have hs4 := hb4.size
            have HU4 := Lib.hid (HU3.out.trans (hb4.mono HU3.out.size))
            have hR4 := (hb4.block _ (lt_heap hR3)).trans hR3
            have RL4 := Lib.hid (RL3.out.keep (fun b hb => hb4.block b (by omega)))
            have A4 := Lib.hid (own_via (w' := z4) A3.out (fun r hr => by simp [Value.ownBlock] at hr; subst hr; exact hb4.block _ (by omega)))
            have hQ4 := (hb4.block _ (lt_heap hQ3)).trans hQ3
            obtain ⟨B_, hB_⟩ : ∃ x, x = z3.heap.size := ⟨_, rfl⟩
            rw [← hB_] at hW4 ⊢
            have B4 := Lib.hid hW4
            have hltB4 := (hW4.lt B_ rfl).2
            have haB : B_ ≤ z3.heap.size := by omega
            have hb_B : z3.heap.size ≤ B_ := by omega
            clear hW4 hB_
            refine Ol.keep hK _ _ ((hb4.block _ (lt_heap hS3)).trans hS3) (fun hS4 => ?_)
            clear hK K
            refine Ol.way_ready (rs := [6]) (by as_aux_lemma => kernel_rfl) (by simp) (Ol.Each.cons rfl (fun K hK => ?_) Ol.Each.nil)
            refine app_int ji jz0 jz1 jz2 A_ A4.out HU4.out (by have := HU4.out.size; omega) ax cx S (HS_.out.on HU4.out) KS.out bs ⟨rfl, rfl⟩ ⟨rfl, rfl⟩ ?_
            intro a_s c_s z5 hgrow hs5 HU5 hRR
            have hR5 := (hgrow.block _ (lt_heap hR4) (by simp; omega)).trans hR4
            have RL5 := Lib.hid (RL4.out.keep (fun b hb => hgrow.block b (by omega) (by simp; omega)))
            have hQ5 := (hgrow.block _ (lt_heap hQ4) (by simp; omega)).trans hQ4
            have B5 := Lib.hid (own_via (w' := z5) B4.out (fun r hr => by simp [Value.ownBlock] at hr; subst hr; exact hgrow.block _ (by omega) (by simp; omega)))
            have RA5 := Lib.hid hRR
            clear hRR
            refine Ol.keep hK _ _ ((hgrow.block _ (lt_heap hS4) (by simp; omega)).trans hS4) (fun hS5 => ?_)
            clear hK K
            refine Ol.way_ready (rs := [10]) (by as_aux_lemma => kernel_rfl) (by simp) (Ol.Each.cons rfl (fun K hK => ?_) Ol.Each.nil)
            refine app_int ji jz0 jz1 jz2 B_ B5.out HU5.out (by have := HU5.out.size; omega) af cf F (HF_.out.on HU5.out) KF.out bf ⟨rfl, rfl⟩ ⟨rfl, rfl⟩ ?_
            intro a_f c_f z6 hgrow hs6 HU6 hRR
            have hR6 := (hgrow.block _ (lt_heap hR5) (by simp; omega)).trans hR5
            have RL6 := Lib.hid (RL5.out.keep (fun b hb => hgrow.block b (by omega) (by simp; omega)))
            have hQ6 := (hgrow.block _ (lt_heap hQ5) (by simp; omega)).trans hQ5
            have RA6 := Lib.hid (RA5.out.keep (fun b hb => hgrow.block b (by omega) (by simp; omega)))
            have RB6 := Lib.hid hRR
            clear hRR
            refine Ol.keep hK _ _ ((hgrow.block _ (lt_heap hS5) (by simp; omega)).trans hS5) (fun hS6 => ?_)
            clear hK K
            refine Ol.way_plain (i := 11) (v := ?_) rfl (by as_aux_lemma => kernel_rfl) (by as_aux_lemma => kernel_rfl) (by as_aux_lemma => kernel_rfl) (fun _ _ _ h => h) (by decide) (Or.inl ⟨by kernel_rfl, by (intro wz _; go_simp; try with_reducible rfl)⟩) (Ol.on hS6) ?_
            go_simp
            refine Ol.way_ready (rs := [13]) (by as_aux_lemma => kernel_rfl) (by simp) (Ol.Each.cons rfl (fun K hK => ?_) Ol.Each.nil)
            refine step_store_row rfl 40 (.tmp 3) (.tmp 21) rfl _ (cqf W H a_l nl c_l a_s ns c_s a_f nf c_f) q 40 hQ6 rfl (by first | rfl | (go_simp; done) | (go_simp; rfl)) (by as_aux_lemma => kernel_rfl) rfl (by simp [Value.oneCell']) ?_
            have HC_ := Lib.hid (to_close (CQ := (cqf W H a_l nl c_l a_s ns c_s a_f nf c_f)) hQ6 hS6 hR6 HU6.out (by omega) (RL6.out.weak (fun b hb => by omega)) (RA6.out.weak (fun b hb => by omega)) (RB6.out.weak (fun b hb => by omega)))
            refine Ol.past hK (by as_aux_lemma => kernel_rfl) _ _ ?_
            clear hK K
            refine Ol.way_done (by as_aux_lemma => kernel_rfl) ?_ _
            go_wp2_with fail
            go_meet
            exact ⟨q, a_l, a_s, a_f, c_l, c_s, c_f, rfl, by omega, HC_.out⟩
      · go_simp
        have hb2 := Ve.below_n1 z1 (.cells #[] 3)
        have hW2 := World.ownsRow_lit (e := 3) (size := 1) z1 #[] 0 (Nat.le_refl _) (by unfold maxLen; omega) rfl
        obtain ⟨z2, hz2_⟩ : ∃ y, z1.alloc (.cells #[] 3) = y := ⟨_, rfl⟩
        rw [hz2_] at hb2 hW2 ⊢
        clear hz2_
        have hs2 := hb2.size
        have HU2 := Lib.hid (HU1.out.trans (hb2.mono HU1.out.size))
        have hR2 := (hb2.block _ (lt_heap hR1)).trans hR1
        have RL2 := Lib.hid (RL1.out.keep (fun b hb => hb2.block b (by omega)))
        obtain ⟨B_, hB_⟩ : ∃ x, x = z1.heap.size := ⟨_, rfl⟩
        rw [← hB_] at hW2 ⊢
        have B2 := Lib.hid hW2
        have hltB2 := (hW2.lt B_ rfl).2
        have haB : B_ ≤ z1.heap.size := by omega
        have hb_B : z1.heap.size ≤ B_ := by omega
        clear hW2 hB_
        refine Ol.keep hK _ _ ((hb2.block _ (lt_heap hS1)).trans hS1) (fun hS2 => ?_)
        clear hK K
        refine Ol.way_ready (rs := [3, 12]) (by as_aux_lemma => kernel_rfl) (by simp) (Ol.Each.cons rfl (fun K hK => ?_) (Ol.Each.cons rfl (fun K hK => ?_) Ol.Each.nil))
        · go_simp
          have hb3 := Ve.below_n1 z2 (.cells #[] 3)
          have hW3 := World.ownsRow_lit (e := 3) (size := 1) z2 #[] 0 (Nat.le_refl _) (by unfold maxLen; omega) rfl
          obtain ⟨z3, hz3_⟩ : ∃ y, z2.alloc (.cells #[] 3) = y := ⟨_, rfl⟩
          rw [hz3_] at hb3 hW3 ⊢
          clear hz3_
          have hs3 := hb3.size
          have HU3 := Lib.hid (HU2.out.trans (hb3.mono HU2.out.size))
          have hR3 := (hb3.block _ (lt_heap hR2)).trans hR2
          have RL3 := Lib.hid (RL2.out.keep (fun b hb => hb3.block b (by omega)))
          have B3 := Lib.hid (own_via (w' := z3) B2.out (fun r hr => by simp [Value.ownBlock] at hr; subst hr; exact hb3.block _ (by omega)))
          obtain ⟨A_, hA_⟩ : ∃ x, x = z2.heap.size := ⟨_, rfl⟩
          rw [← hA_] at hW3 ⊢
          have A3 := Lib.hid hW3
          have hltA3 := (hW3.lt A_ rfl).2
          have haA : A_ ≤ z2.heap.size := by omega
          have hb_A : z2.heap.size ≤ A_ := by omega
          clear hW3 hA_
          refine Ol.keep hK _ _ ((hb3.block _ (lt_heap hS2)).trans hS2) (fun hS3 => ?_)
          clear hK K
          refine Ol.way_ready (rs := [6, 12]) (by as_aux_lemma => kernel_rfl) (by simp) (Ol.Each.cons rfl (fun K hK => ?_) (Ol.Each.cons rfl (fun K hK => ?_) Ol.Each.nil))
          · refine app_int ji jz0 jz1 jz2 A_ A3.out HU3.out (by have := HU3.out.size; omega) ax cx S (HS_.out.on HU3.out) KS.out bs ⟨rfl, rfl⟩ ⟨rfl, rfl⟩ ?_
            intro a_s c_s z4 hgrow hs4 HU4 hRR
            have hR4 := (hgrow.block _ (lt_heap hR3) (by simp; omega)).trans hR3
            have RL4 := Lib.hid (RL3.out.keep (fun b hb => hgrow.block b (by omega) (by simp; omega)))
            have B4 := Lib.hid (own_via (w' := z4) B3.out (fun r hr => by simp [Value.ownBlock] at hr; subst hr; exact hgrow.block _ (by omega) (by simp; omega)))
            have RA4 := Lib.hid hRR
            clear hRR
            refine Ol.keep hK _ _ ((hgrow.block _ (lt_heap hS3) (by simp; omega)).trans hS3) (fun hS4 => ?_)
            clear hK K
            refine Ol.way_ready (rs := [10, 12]) (by as_aux_lemma => kernel_rfl) (by simp) (Ol.Each.cons rfl (fun K hK => ?_) (Ol.Each.cons rfl (fun K hK => ?_) Ol.Each.nil))
            · refine app_int ji jz0 jz1 jz2 B_ B4.out HU4.out (by have := HU4.out.size; omega) af cf F (HF_.out.on HU4.out) KF.out bf ⟨rfl, rfl⟩ ⟨rfl, rfl⟩ ?_
              intro a_f c_f z5 hgrow hs5 HU5 hRR
              have hR5 := (hgrow.block _ (lt_heap hR4) (by simp; omega)).trans hR4
              have RL5 := Lib.hid (RL4.out.keep (fun b hb => hgrow.block b (by omega) (by simp; omega)))
              have RA5 := Lib.hid (RA4.out.keep (fun b hb => hgrow.block b (by omega) (by simp; omega)))
              have RB5 := Lib.hid hRR
              clear hRR
              refine Ol.keep hK _ _ ((hgrow.block _ (lt_heap hS4) (by simp; omega)).trans hS4) (fun hS5 => ?_)
              clear hK K
              refine Ol.way_plain (i := 11) (v := ?_) rfl (by as_aux_lemma => kernel_rfl) (by as_aux_lemma => kernel_rfl) (by as_aux_lemma => kernel_rfl) (fun _ _ _ h => h) (by decide) (Or.inl ⟨by kernel_rfl, by (intro wz _; go_simp; try with_reducible rfl)⟩) (Ol.on hS5) ?_
              go_simp
              refine Ol.way_ready (rs := [12]) (by as_aux_lemma => kernel_rfl) (by simp) (Ol.Each.cons rfl (fun K hK => ?_) Ol.Each.nil)
              go_simp
              have hb6 := Ve.below_n1 z5 ZFo
              have hN := heap_alloc_last z5 ZFo
              obtain ⟨z6, hz6_⟩ : ∃ y, z5.alloc ZFo = y := ⟨_, rfl⟩
              rw [hz6_] at hb6 hN ⊢
              clear hz6_
              have hs6 := hb6.size
              have HU6 := Lib.hid (HU5.out.trans (hb6.mono HU5.out.size))
              have hR6 := (hb6.block _ (lt_heap hR5)).trans hR5
              have RL6 := Lib.hid (RL5.out.keep (fun b hb => hb6.block b (by omega)))
              have RA6 := Lib.hid (RA5.out.keep (fun b hb => hb6.block b (by omega)))
              have RB6 := Lib.hid (RB5.out.keep (fun b hb => hb6.block b (by omega)))
              obtain ⟨q, hq⟩ : ∃ q, q = z5.heap.size := ⟨_, rfl⟩
              rw [← hq] at hN ⊢
              have hQ6 := hN
              have hltq6 := lt_heap hN
              have hqa : q ≤ z5.heap.size := by omega
              have hqb : z5.heap.size ≤ q := by omega
              clear hN hq
              refine Ol.keep hK _ _ ((hb6.block _ (lt_heap hS5)).trans hS5) (fun hS6 => ?_)
              clear hK K
              refine Ol.way_ready (rs := [13]) (by as_aux_lemma => kernel_rfl) (by simp) (Ol.Each.cons rfl (fun K hK => ?_) Ol.Each.nil)
              refine step_store_row rfl 40 (.tmp 3) (.tmp 21) rfl _ (cqf W H a_l nl c_l a_s ns c_s a_f nf c_f) q 40 hQ6 rfl (by first | rfl | (go_simp; done) | (go_simp; rfl)) (by as_aux_lemma => kernel_rfl) rfl (by simp [Value.oneCell']) ?_
              have HC_ := Lib.hid (to_close (CQ := (cqf W H a_l nl c_l a_s ns c_s a_f nf c_f)) hQ6 hS6 hR6 HU6.out (by omega) (RL6.out.weak (fun b hb => by omega)) (RA6.out.weak (fun b hb => by omega)) (RB6.out.weak (fun b hb => by omega)))
              refine Ol.past hK (by as_aux_lemma => kernel_rfl) _ _ ?_
              clear hK K
              refine Ol.way_done (by as_aux_lemma => kernel_rfl) ?_ _
              go_wp2_with fail
              go_meet
              exact ⟨q, a_l, a_s, a_f, c_l, c_s, c_f, rfl, by omega, HC_.out⟩
            · go_simp
              have hb5 := Ve.below_n1 z4 ZFo
              have hN := heap_alloc_last z4 ZFo
              obtain ⟨z5, hz5_⟩ : ∃ y, z4.alloc ZFo = y := ⟨_, rfl⟩
              rw [hz5_] at hb5 hN ⊢
              clear hz5_
              have hs5 := hb5.size
              have HU5 := Lib.hid (HU4.out.trans (hb5.mono HU4.out.size))
              have hR5 := (hb5.block _ (lt_heap hR4)).trans hR4
              have RL5 := Lib.hid (RL4.out.keep (fun b hb => hb5.block b (by omega)))
              have B5 := Lib.hid (own_via (w' := z5) B4.out (fun r hr => by simp [Value.ownBlock] at hr; subst hr; exact hb5.block _ (by omega)))
              have RA5 := Lib.hid (RA4.out.keep (fun b hb => hb5.block b (by omega)))
              obtain ⟨q, hq⟩ : ∃ q, q = z4.heap.size := ⟨_, rfl⟩
              rw [← hq] at hN ⊢
              have hQ5 := hN
              have hltq5 := lt_heap hN
              have hqa : q ≤ z4.heap.size := by omega
              have hqb : z4.heap.size ≤ q := by omega
              clear hN hq
              refine Ol.keep hK _ _ ((hb5.block _ (lt_heap hS4)).trans hS4) (fun hS5 => ?_)
              clear hK K
              refine Ol.way_ready (rs := [10]) (by as_aux_lemma => kernel_rfl) (by simp) (Ol.Each.cons rfl (fun K hK => ?_) Ol.Each.nil)
              refine app_int ji jz0 jz1 jz2 B_ B5.out HU5.out (by have := HU5.out.size; omega) af cf F (HF_.out.on HU5.out) KF.out bf ⟨rfl, rfl⟩ ⟨rfl, rfl⟩ ?_
              intro a_f c_f z6 hgrow hs6 HU6 hRR
              have hR6 := (hgrow.block _ (lt_heap hR5) (by simp; omega)).trans hR5
              have RL6 := Lib.hid (RL5.out.keep (fun b hb => hgrow.block b (by omega) (by simp; omega)))
              have RA6 := Lib.hid (RA5.out.keep (fun b hb => hgrow.block b (by omega) (by simp; omega)))
              have hQ6 := (hgrow.block _ (lt_heap hQ5) (by simp; omega)).trans hQ5
              have RB6 := Lib.hid hRR
              clear hRR
              refine Ol.keep hK _ _ ((hgrow.block _ (lt_heap hS5) (by simp; omega)).trans hS5) (fun hS6 => ?_)
              clear hK K
              refine Ol.way_plain (i := 11) (v := ?_) rfl (by as_aux_lemma => kernel_rfl) (by as_aux_lemma => kernel_rfl) (by as_aux_lemma => kernel_rfl) (fun _ _ _ h => h) (by decide) (Or.inl ⟨by kernel_rfl, by (intro wz _; go_simp; try with_reducible rfl)⟩) (Ol.on hS6) ?_
              go_simp
              refine Ol.way_ready (rs := [13]) (by as_aux_lemma => kernel_rfl) (by simp) (Ol.Each.cons rfl (fun K hK => ?_) Ol.Each.nil)
              refine step_store_row rfl 40 (.tmp 3) (.tmp 21) rfl _ (cqf W H a_l nl c_l a_s ns c_s a_f nf c_f) q 40 hQ6 rfl (by first | rfl | (go_simp; done) | (go_simp; rfl)) (by as_aux_lemma => kernel_rfl) rfl (by simp [Value.oneCell']) ?_
              have HC_ := Lib.hid (to_close (CQ := (cqf W H a_l nl c_l a_s ns c_s a_f nf c_f)) hQ6 hS6 hR6 HU6.out (by omega) (RL6.out.weak (fun b hb => by omega)) (RA6.out.weak (fun b hb => by omega)) (RB6.out.weak (fun b hb => by omega)))
              refine Ol.past hK (by as_aux_lemma => kernel_rfl) _ _ ?_
              clear hK K
              refine Ol.way_done (by as_aux_lemma => kernel_rfl) ?_ _
              go_wp2_with fail
              go_meet
              exact ⟨q, a_l, a_s, a_f, c_l, c_s, c_f, rfl, by omega, HC_.out⟩
          · go_simp
            have hb4 := Ve.below_n1 z3 ZFo
            have hN := heap_alloc_last z3 ZFo
            obtain ⟨z4, hz4_⟩ : ∃ y, z3.alloc ZFo = y := ⟨_, rfl⟩
            rw [hz4_] at hb4 hN ⊢
            clear hz4_
            have hs4 := hb4.size
            have HU4 := Lib.hid (HU3.out.trans (hb4.mono HU3.out.size))
            have hR4 := (hb4.block _ (lt_heap hR3)).trans hR3
            have RL4 := Lib.hid (RL3.out.keep (fun b hb => hb4.block b (by omega)))
            have B4 := Lib.hid (own_via (w' := z4) B3.out (fun r hr => by simp [Value.ownBlock] at hr; subst hr; exact hb4.block _ (by omega)))
            have A4 := Lib.hid (own_via (w' := z4) A3.out (fun r hr => by simp [Value.ownBlock] at hr; subst hr; exact hb4.block _ (by omega)))
            obtain ⟨q, hq⟩ : ∃ q, q = z3.heap.size := ⟨_, rfl⟩
            rw [← hq] at hN ⊢
            have hQ4 := hN
            have hltq4 := lt_heap hN
            have hqa : q ≤ z3.heap.size := by omega
            have hqb : z3.heap.size ≤ q := by omega
            clear hN hq
            refine Ol.keep hK _ _ ((hb4.block _ (lt_heap hS3)).trans hS3) (fun hS4 => ?_)
            clear hK K
            refine Ol.way_ready (rs := [6]) (by as_aux_lemma => kernel_rfl) (by simp) (Ol.Each.cons rfl (fun K hK => ?_) Ol.Each.nil)
            refine app_int ji jz0 jz1 jz2 A_ A4.out HU4.out (by have := HU4.out.size; omega) ax cx S (HS_.out.on HU4.out) KS.out bs ⟨rfl, rfl⟩ ⟨rfl, rfl⟩ ?_
            intro a_s c_s z5 hgrow hs5 HU5 hRR
            have hR5 := (hgrow.block _ (lt_heap hR4) (by simp; omega)).trans hR4
            have RL5 := Lib.hid (RL4.out.keep (fun b hb => hgrow.block b (by omega) (by simp; omega)))
            have B5 := Lib.hid (own_via (w' := z5) B4.out (fun r hr => by simp [Value.ownBlock] at hr; subst hr; exact hgrow.block _ (by omega) (by simp; omega)))
            have hQ5 := (hgrow.block _ (lt_heap hQ4) (by simp; omega)).trans hQ4
            have RA5 := Lib.hid hRR
            clear hRR
            refine Ol.keep hK _ _ ((hgrow.block _ (lt_heap hS4) (by simp; omega)).trans hS4) (fun hS5 => ?_)
            clear hK K
            refine Ol.way_ready (rs := [10]) (by as_aux_lemma => kernel_rfl) (by simp) (Ol.Each.cons rfl (fun K hK => ?_) Ol.Each.nil)
            refine app_int ji jz0 jz1 jz2 B_ B5.out HU5.out (by have := HU5.out.size; omega) af cf F (HF_.out.on HU5.out) KF.out bf ⟨rfl, rfl⟩ ⟨rfl, rfl⟩ ?_
            intro a_f c_f z6 hgrow hs6 HU6 hRR
            have hR6 := (hgrow.block _ (lt_heap hR5) (by simp; omega)).trans hR5
            have RL6 := Lib.hid (RL5.out.keep (fun b hb => hgrow.block b (by omega) (by simp; omega)))
            have hQ6 := (hgrow.block _ (lt_heap hQ5) (by simp; omega)).trans hQ5
            have RA6 := Lib.hid (RA5.out.keep (fun b hb => hgrow.block b (by omega) (by simp; omega)))
            have RB6 := Lib.hid hRR
            clear hRR
            refine Ol.keep hK _ _ ((hgrow.block _ (lt_heap hS5) (by simp; omega)).trans hS5) (fun hS6 => ?_)
            clear hK K
            refine Ol.way_plain (i := 11) (v := ?_) rfl (by as_aux_lemma => kernel_rfl) (by as_aux_lemma => kernel_rfl) (by as_aux_lemma => kernel_rfl) (fun _ _ _ h => h) (by decide) (Or.inl ⟨by kernel_rfl, by (intro wz _; go_simp; try with_reducible rfl)⟩) (Ol.on hS6) ?_
            go_simp
            refine Ol.way_ready (rs := [13]) (by as_aux_lemma => kernel_rfl) (by simp) (Ol.Each.cons rfl (fun K hK => ?_) Ol.Each.nil)
            refine step_store_row rfl 40 (.tmp 3) (.tmp 21) rfl _ (cqf W H a_l nl c_l a_s ns c_s a_f nf c_f) q 40 hQ6 rfl (by first | rfl | (go_simp; done) | (go_simp; rfl)) (by as_aux_lemma => kernel_rfl) rfl (by simp [Value.oneCell']) ?_
            have HC_ := Lib.hid (to_close (CQ := (cqf W H a_l nl c_l a_s ns c_s a_f nf c_f)) hQ6 hS6 hR6 HU6.out (by omega) (RL6.out.weak (fun b hb => by omega)) (RA6.out.weak (fun b hb => by omega)) (RB6.out.weak (fun b hb => by omega)))
            refine Ol.past hK (by as_aux_lemma => kernel_rfl) _ _ ?_
            clear hK K
            refine Ol.way_done (by as_aux_lemma => kernel_rfl) ?_ _
            go_wp2_with fail
            go_meet
            exact ⟨q, a_l, a_s, a_f, c_l, c_s, c_f, rfl, by omega, HC_.out⟩
        · go_simp
          have hb3 := Ve.below_n1 z2 ZFo
          have hN := heap_alloc_last z2 ZFo
          obtain ⟨z3, hz3_⟩ : ∃ y, z2.alloc ZFo = y := ⟨_, rfl⟩
          rw [hz3_] at hb3 hN ⊢
          clear hz3_
          have hs3 := hb3.size
          have HU3 := Lib.hid (HU2.out.trans (hb3.mono HU2.out.size))
          have hR3 := (hb3.block _ (lt_heap hR2)).trans hR2
          have RL3 := Lib.hid (RL2.out.keep (fun b hb => hb3.block b (by omega)))
          have B3 := Lib.hid (own_via (w' := z3) B2.out (fun r hr => by simp [Value.ownBlock] at hr; subst hr; exact hb3.block _ (by omega)))
          obtain ⟨q, hq⟩ : ∃ q, q = z2.heap.size := ⟨_, rfl⟩
          rw [← hq] at hN ⊢
          have hQ3 := hN
          have hltq3 := lt_heap hN
          have hqa : q ≤ z2.heap.size := by omega
          have hqb : z2.heap.size ≤ q := by omega
          clear hN hq
          refine Ol.keep hK _ _ ((hb3.block _ (lt_heap hS2)).trans hS2) (fun hS3 => ?_)
          clear hK K
          refine Ol.way_ready (rs := [3]) (by as_aux_lemma => kernel_rfl) (by simp) (Ol.Each.cons rfl (fun K hK => ?_) Ol.Each.nil)
          go_simp
          have hb4 := Ve.below_n1 z3 (.cells #[] 3)
          have hW4 := World.ownsRow_lit (e := 3) (size := 1) z3 #[] 0 (Nat.le_refl _) (by unfold maxLen; omega) rfl
          obtain ⟨z4, hz4_⟩ : ∃ y, z3.alloc (.cells #[] 3) = y := ⟨_, rfl⟩
          rw [hz4_] at hb4 hW4 ⊢
          clear hz4_
          have hs4 := hb4.size
          have HU4 := Lib.hid (HU3.out.trans (hb4.mono HU3.out.size))
          have hR4 := (hb4.block _ (lt_heap hR3)).trans hR3
          have RL4 := Lib.hid (RL3.out.keep (fun b hb => hb4.block b (by omega)))
          have B4 := Lib.hid (own_via (w' := z4) B3.out (fun r hr => by simp [Value.ownBlock] at hr; subst hr; exact hb4.block _ (by omega)))
          have hQ4 := (hb4.block _ (lt_heap hQ3)).trans hQ3
          obtain ⟨A_, hA_⟩ : ∃ x, x = z3.heap.size := ⟨_, rfl⟩
          rw [← hA_] at hW4 ⊢
          have A4 := Lib.hid hW4
          have hltA4 := (hW4.lt A_ rfl).2
          have haA : A_ ≤ z3.heap.size := by omega
          have hb_A : z3.heap.size ≤ A_ := by omega
          clear hW4 hA_
          refine Ol.keep hK _ _ ((hb4.block _ (lt_heap hS3)).trans hS3) (fun hS4 => ?_)
          clear hK K
          refine Ol.way_ready (rs := [6]) (by as_aux_lemma => kernel_rfl) (by simp) (Ol.Each.cons rfl (fun K hK => ?_) Ol.Each.nil)
          refine app_int ji jz0 jz1 jz2 A_ A4.out HU4.out (by have := HU4.out.size; omega) ax cx S (HS_.out.on HU4.out) KS.out bs ⟨rfl, rfl⟩ ⟨rfl, rfl⟩ ?_
          intro a_s c_s z5 hgrow hs5 HU5 hRR
          have hR5 := (hgrow.block _ (lt_heap hR4) (by simp; omega)).trans hR4
          have RL5 := Lib.hid (RL4.out.keep (fun b hb => hgrow.block b (by omega) (by simp; omega)))
          have B5 := Lib.hid (own_via (w' := z5) B4.out (fun r hr => by simp [Value.ownBlock] at hr; subst hr; exact hgrow.block _ (by omega) (by simp; omega)))
          have hQ5 := (hgrow.block _ (lt_heap hQ4) (by simp; omega)).trans hQ4
          have RA5 := Lib.hid hRR
          clear hRR
          refine Ol.keep hK _ _ ((hgrow.block _ (lt_heap hS4) (by simp; omega)).trans hS4) (fun hS5 => ?_)
          clear hK K
          refine Ol.way_ready (rs := [10]) (by as_aux_lemma => kernel_rfl) (by simp) (Ol.Each.cons rfl (fun K hK => ?_) Ol.Each.nil)
          refine app_int ji jz0 jz1 jz2 B_ B5.out HU5.out (by have := HU5.out.size; omega) af cf F (HF_.out.on HU5.out) KF.out bf ⟨rfl, rfl⟩ ⟨rfl, rfl⟩ ?_
          intro a_f c_f z6 hgrow hs6 HU6 hRR
          have hR6 := (hgrow.block _ (lt_heap hR5) (by simp; omega)).trans hR5
          have RL6 := Lib.hid (RL5.out.keep (fun b hb => hgrow.block b (by omega) (by simp; omega)))
          have hQ6 := (hgrow.block _ (lt_heap hQ5) (by simp; omega)).trans hQ5
          have RA6 := Lib.hid (RA5.out.keep (fun b hb => hgrow.block b (by omega) (by simp; omega)))
          have RB6 := Lib.hid hRR
          clear hRR
          refine Ol.keep hK _ _ ((hgrow.block _ (lt_heap hS5) (by simp; omega)).trans hS5) (fun hS6 => ?_)
          clear hK K
          refine Ol.way_plain (i := 11) (v := ?_) rfl (by as_aux_lemma => kernel_rfl) (by as_aux_lemma => kernel_rfl) (by as_aux_lemma => kernel_rfl) (fun _ _ _ h => h) (by decide) (Or.inl ⟨by kernel_rfl, by (intro wz _; go_simp; try with_reducible rfl)⟩) (Ol.on hS6) ?_
          go_simp
          refine Ol.way_ready (rs := [13]) (by as_aux_lemma => kernel_rfl) (by simp) (Ol.Each.cons rfl (fun K hK => ?_) Ol.Each.nil)
          refine step_store_row rfl 40 (.tmp 3) (.tmp 21) rfl _ (cqf W H a_l nl c_l a_s ns c_s a_f nf c_f) q 40 hQ6 rfl (by first | rfl | (go_simp; done) | (go_simp; rfl)) (by as_aux_lemma => kernel_rfl) rfl (by simp [Value.oneCell']) ?_
          have HC_ := Lib.hid (to_close (CQ := (cqf W H a_l nl c_l a_s ns c_s a_f nf c_f)) hQ6 hS6 hR6 HU6.out (by omega) (RL6.out.weak (fun b hb => by omega)) (RA6.out.weak (fun b hb => by omega)) (RB6.out.weak (fun b hb => by omega)))
          refine Ol.past hK (by as_aux_lemma => kernel_rfl) _ _ ?_
          clear hK K
          refine Ol.way_done (by as_aux_lemma => kernel_rfl) ?_ _
          go_wp2_with fail
          go_meet
          exact ⟨q, a_l, a_s, a_f, c_l, c_s, c_f, rfl, by omega, HC_.out⟩
      · go_simp
        have hb2 := Ve.below_n1 z1 ZFo
        have hN := heap_alloc_last z1 ZFo
        obtain ⟨z2, hz2_⟩ : ∃ y, z1.alloc ZFo = y := ⟨_, rfl⟩
        rw [hz2_] at hb2 hN ⊢
        clear hz2_
        have hs2 := hb2.size
        have HU2 := Lib.hid (HU1.out.trans (hb2.mono HU1.out.size))
        have hR2 := (hb2.block _ (lt_heap hR1)).trans hR1
        have RL2 := Lib.hid (RL1.out.keep (fun b hb => hb2.block b (by omega)))
        obtain ⟨q, hq⟩ : ∃ q, q = z1.heap.size := ⟨_, rfl⟩
        rw [← hq] at hN ⊢
        have hQ2 := hN
        have hltq2 := lt_heap hN
        have hqa : q ≤ z1.heap.size := by omega
        have hqb : z1.heap.size ≤ q := by omega
        clear hN hq
        refine Ol.keep hK _ _ ((hb2.block _ (lt_heap hS1)).trans hS1) (fun hS2 => ?_)
        clear hK K
        refine Ol.way_ready (rs := [3, 7]) (by as_aux_lemma => kernel_rfl) (by simp) (Ol.Each.cons rfl (fun K hK => ?_) (Ol.Each.cons rfl (fun K hK => ?_) Ol.Each.nil))
        · go_simp
          have hb3 := Ve.below_n1 z2 (.cells #[] 3)
          have hW3 := World.ownsRow_lit (e := 3) (size := 1) z2 #[] 0 (Nat.le_refl _) (by unfold maxLen; omega) rfl
          obtain ⟨z3, hz3_⟩ : ∃ y, z2.alloc (.cells #[] 3) = y := ⟨_, rfl⟩
          rw [hz3_] at hb3 hW3 ⊢
          clear hz3_
          have hs3 := hb3.size
          have HU3 := Lib.hid (HU2.out.trans (hb3.mono HU2.out.size))
          have hR3 := (hb3.block _ (lt_heap hR2)).trans hR2
          have RL3 := Lib.hid (RL2.out.keep (fun b hb => hb3.block b (by omega)))
          have hQ3 := (hb3.block _ (lt_heap hQ2)).trans hQ2
          obtain ⟨A_, hA_⟩ : ∃ x, x = z2.heap.size := ⟨_, rfl⟩
          rw [← hA_] at hW3 ⊢
          have A3 := Lib.hid hW3
          have hltA3 := (hW3.lt A_ rfl).2
          have haA : A_ ≤ z2.heap.size := by omega
          have hb_A : z2.heap.size ≤ A_ := by omega
          clear hW3 hA_
          refine Ol.keep hK _ _ ((hb3.block _ (lt_heap hS2)).trans hS2) (fun hS3 => ?_)
          clear hK K
          refine Ol.way_ready (rs := [6, 7]) (by as_aux_lemma => kernel_rfl) (by simp) (Ol.Each.cons rfl (fun K hK => ?_) (Ol.Each.cons rfl (fun K hK => ?_) Ol.Each.nil))
          · refine app_int ji jz0 jz1 jz2 A_ A3.out HU3.out (by have := HU3.out.size; omega) ax cx S (HS_.out.on HU3.out) KS.out bs ⟨rfl, rfl⟩ ⟨rfl, rfl⟩ ?_
            intro a_s c_s z4 hgrow hs4 HU4 hRR
            have hR4 := (hgrow.block _ (lt_heap hR3) (by simp; omega)).trans hR3
            have RL4 := Lib.hid (RL3.out.keep (fun b hb => hgrow.block b (by omega) (by simp; omega)))
            have hQ4 := (hgrow.block _ (lt_heap hQ3) (by simp; omega)).trans hQ3
            have RA4 := Lib.hid hRR
            clear hRR
            refine Ol.keep hK _ _ ((hgrow.block _ (lt_heap hS3) (by simp; omega)).trans hS3) (fun hS4 => ?_)
            clear hK K
            refine Ol.way_ready (rs := [7]) (by as_aux_lemma => kernel_rfl) (by simp) (Ol.Each.cons rfl (fun K hK => ?_) Ol.Each.nil)
            go_simp
            have hb5 := Ve.below_n1 z4 (.cells #[] 3)
            have hW5 := World.ownsRow_lit (e := 3) (size := 1) z4 #[] 0 (Nat.le_refl _) (by unfold maxLen; omega) rfl
            obtain ⟨z5, hz5_⟩ : ∃ y, z4.alloc (.cells #[] 3) = y := ⟨_, rfl⟩
            rw [hz5_] at hb5 hW5 ⊢
            clear hz5_
            have hs5 := hb5.size
            have HU5 := Lib.hid (HU4.out.trans (hb5.mono HU4.out.size))
            have hR5 := (hb5.block _ (lt_heap hR4)).trans hR4
            have RL5 := Lib.hid (RL4.out.keep (fun b hb => hb5.block b (by omega)))
            have hQ5 := (hb5.block _ (lt_heap hQ4)).trans hQ4
            have RA5 := Lib.hid (RA4.out.keep (fun b hb => hb5.block b (by omega)))
            obtain ⟨B_, hB_⟩ : ∃ x, x = z4.heap.size := ⟨_, rfl⟩
            rw [← hB_] at hW5 ⊢
            have B5 := Lib.hid hW5
            have hltB5 := (hW5.lt B_ rfl).2
            have haB : B_ ≤ z4.heap.size := by omega
            have hb_B : z4.heap.size ≤ B_ := by omega
            clear hW5 hB_
            refine Ol.keep hK _ _ ((hb5.block _ (lt_heap hS4)).trans hS4) (fun hS5 => ?_)
            clear hK K
            refine Ol.way_ready (rs := [10]) (by as_aux_lemma => kernel_rfl) (by simp) (Ol.Each.cons rfl (fun K hK => ?_) Ol.Each.nil)
            refine app_int ji jz0 jz1 jz2 B_ B5.out HU5.out (by have := HU5.out.size; omega) af cf F (HF_.out.on HU5.out) KF.out bf ⟨rfl, rfl⟩ ⟨rfl, rfl⟩ ?_
            intro a_f c_f z6 hgrow hs6 HU6 hRR
            have hR6 := (hgrow.block _ (lt_heap hR5) (by simp; omega)).trans hR5
            have RL6 := Lib.hid (RL5.out.keep (fun b hb => hgrow.block b (by omega) (by simp; omega)))
            have hQ6 := (hgrow.block _ (lt_heap hQ5) (by simp; omega)).trans hQ5
            have RA6 := Lib.hid (RA5.out.keep (fun b hb => hgrow.block b (by omega) (by simp; omega)))
            have RB6 := Lib.hid hRR
            clear hRR
            refine Ol.keep hK _ _ ((hgrow.block _ (lt_heap hS5) (by simp; omega)).trans hS5) (fun hS6 => ?_)
            clear hK K
            refine Ol.way_plain (i := 11) (v := ?_) rfl (by as_aux_lemma => kernel_rfl) (by as_aux_lemma => kernel_rfl) (by as_aux_lemma => kernel_rfl) (fun _ _ _ h => h) (by decide) (Or.inl ⟨by kernel_rfl, by (intro wz _; go_simp; try with_reducible rfl)⟩) (Ol.on hS6) ?_
            go_simp
            refine Ol.way_ready (rs := [13]) (by as_aux_lemma => kernel_rfl) (by simp) (Ol.Each.cons rfl (fun K hK => ?_) Ol.Each.nil)
            refine step_store_row rfl 40 (.tmp 3) (.tmp 21) rfl _ (cqf W H a_l nl c_l a_s ns c_s a_f nf c_f) q 40 hQ6 rfl (by first | rfl | (go_simp; done) | (go_simp; rfl)) (by as_aux_lemma => kernel_rfl) rfl (by simp [Value.oneCell']) ?_
            have HC_ := Lib.hid (to_close (CQ := (cqf W H a_l nl c_l a_s ns c_s a_f nf c_f)) hQ6 hS6 hR6 HU6.out (by omega) (RL6.out.weak (fun b hb => by omega)) (RA6.out.weak (fun b hb => by omega)) (RB6.out.weak (fun b hb => by omega)))
            refine Ol.past hK (by as_aux_lemma => kernel_rfl) _ _ ?_
            clear hK K
            refine Ol.way_done (by as_aux_lemma => kernel_rfl) ?_ _
            go_wp2_with fail
            go_meet
            exact ⟨q, a_l, a_s, a_f, c_l, c_s, c_f, rfl, by omega, HC_.out⟩
          · go_simp
            have hb4 := Ve.below_n1 z3 (.cells #[] 3)
            have hW4 := World.ownsRow_lit (e := 3) (size := 1) z3 #[] 0 (Nat.le_refl _) (by unfold maxLen; omega) rfl
            obtain ⟨z4, hz4_⟩ : ∃ y, z3.alloc (.cells #[] 3) = y := ⟨_, rfl⟩
            rw [hz4_] at hb4 hW4 ⊢
            clear hz4_
            have hs4 := hb4.size
            have HU4 := Lib.hid (HU3.out.trans (hb4.mono HU3.out.size))
            have hR4 := (hb4.block _ (lt_heap hR3)).trans hR3
            have RL4 := Lib.hid (RL3.out.keep (fun b hb => hb4.block b (by omega)))
            have hQ4 := (hb4.block _ (lt_heap hQ3)).trans hQ3
            have A4 := Lib.hid (own_via (w' := z4) A3.out (fun r hr => by simp [Value.ownBlock] at hr; subst hr; exact hb4.block _ (by omega)))
            obtain ⟨B_, hB_⟩ : ∃ x, x = z3.heap.size := ⟨_, rfl⟩
            rw [← hB_] at hW4 ⊢
            have B4 := Lib.hid hW4
            have hltB4 := (hW4.lt B_ rfl).2
            have haB : B_ ≤ z3.heap.size := by omega
            have hb_B : z3.heap.size ≤ B_ := by omega
            clear hW4 hB_
            refine Ol.keep hK _ _ ((hb4.block _ (lt_heap hS3)).trans hS3) (fun hS4 => ?_)
            clear hK K
            refine Ol.way_ready (rs := [6]) (by as_aux_lemma => kernel_rfl) (by simp) (Ol.Each.cons rfl (fun K hK => ?_) Ol.Each.nil)
            refine app_int ji jz0 jz1 jz2 A_ A4.out HU4.out (by have := HU4.out.size; omega) ax cx S (HS_.out.on HU4.out) KS.out bs ⟨rfl, rfl⟩ ⟨rfl, rfl⟩ ?_
            intro a_s c_s z5 hgrow hs5 HU5 hRR
            have hR5 := (hgrow.block _ (lt_heap hR4) (by simp; omega)).trans hR4
            have RL5 := Lib.hid (RL4.out.keep (fun b hb => hgrow.block b (by omega) (by simp; omega)))
            have hQ5 := (hgrow.block _ (lt_heap hQ4) (by simp; omega)).trans hQ4
            have B5 := Lib.hid (own_via (w' := z5) B4.out (fun r hr => by simp [Value.ownBlock] at hr; subst hr; exact hgrow.block _ (by omega) (by simp; omega)))
            have RA5 := Lib.hid hRR
            clear hRR
            refine Ol.keep hK _ _ ((hgrow.block _ (lt_heap hS4) (by simp; omega)).trans hS4) (fun hS5 => ?_)
            clear hK K
            refine Ol.way_ready (rs := [10]) (by as_aux_lemma => kernel_rfl) (by simp) (Ol.Each.cons rfl (fun K hK => ?_) Ol.Each.nil)
            refine app_int ji jz0 jz1 jz2 B_ B5.out HU5.out (by have := HU5.out.size; omega) af cf F (HF_.out.on HU5.out) KF.out bf ⟨rfl, rfl⟩ ⟨rfl, rfl⟩ ?_
            intro a_f c_f z6 hgrow hs6 HU6 hRR
            have hR6 := (hgrow.block _ (lt_heap hR5) (by simp; omega)).trans hR5
            have RL6 := Lib.hid (RL5.out.keep (fun b hb => hgrow.block b (by omega) (by simp; omega)))
            have hQ6 := (hgrow.block _ (lt_heap hQ5) (by simp; omega)).trans hQ5
            have RA6 := Lib.hid (RA5.out.keep (fun b hb => hgrow.block b (by omega) (by simp; omega)))
            have RB6 := Lib.hid hRR
            clear hRR
            refine Ol.keep hK _ _ ((hgrow.block _ (lt_heap hS5) (by simp; omega)).trans hS5) (fun hS6 => ?_)
            clear hK K
            refine Ol.way_plain (i := 11) (v := ?_) rfl (by as_aux_lemma => kernel_rfl) (by as_aux_lemma => kernel_rfl) (by as_aux_lemma => kernel_rfl) (fun _ _ _ h => h) (by decide) (Or.inl ⟨by kernel_rfl, by (intro wz _; go_simp; try with_reducible rfl)⟩) (Ol.on hS6) ?_
            go_simp
            refine Ol.way_ready (rs := [13]) (by as_aux_lemma => kernel_rfl) (by simp) (Ol.Each.cons rfl (fun K hK => ?_) Ol.Each.nil)
            refine step_store_row rfl 40 (.tmp 3) (.tmp 21) rfl _ (cqf W H a_l nl c_l a_s ns c_s a_f nf c_f) q 40 hQ6 rfl (by first | rfl | (go_simp; done) | (go_simp; rfl)) (by as_aux_lemma => kernel_rfl) rfl (by simp [Value.oneCell']) ?_
            have HC_ := Lib.hid (to_close (CQ := (cqf W H a_l nl c_l a_s ns c_s a_f nf c_f)) hQ6 hS6 hR6 HU6.out (by omega) (RL6.out.weak (fun b hb => by omega)) (RA6.out.weak (fun b hb => by omega)) (RB6.out.weak (fun b hb => by omega)))
            refine Ol.past hK (by as_aux_lemma => kernel_rfl) _ _ ?_
            clear hK K
            refine Ol.way_done (by as_aux_lemma => kernel_rfl) ?_ _
            go_wp2_with fail
            go_meet
            exact ⟨q, a_l, a_s, a_f, c_l, c_s, c_f, rfl, by omega, HC_.out⟩
        · go_simp
          have hb3 := Ve.below_n1 z2 (.cells #[] 3)
          have hW3 := World.ownsRow_lit (e := 3) (size := 1) z2 #[] 0 (Nat.le_refl _) (by unfold maxLen; omega) rfl
          obtain ⟨z3, hz3_⟩ : ∃ y, z2.alloc (.cells #[] 3) = y := ⟨_, rfl⟩
          rw [hz3_] at hb3 hW3 ⊢
          clear hz3_
          have hs3 := hb3.size
          have HU3 := Lib.hid (HU2.out.trans (hb3.mono HU2.out.size))
          have hR3 := (hb3.block _ (lt_heap hR2)).trans hR2
          have RL3 := Lib.hid (RL2.out.keep (fun b hb => hb3.block b (by omega)))
          have hQ3 := (hb3.block _ (lt_heap hQ2)).trans hQ2
          obtain ⟨B_, hB_⟩ : ∃ x, x = z2.heap.size := ⟨_, rfl⟩
          rw [← hB_] at hW3 ⊢
          have B3 := Lib.hid hW3
          have hltB3 := (hW3.lt B_ rfl).2
          have haB : B_ ≤ z2.heap.size := by omega
          have hb_B : z2.heap.size ≤ B_ := by omega
          clear hW3 hB_
          refine Ol.keep hK _ _ ((hb3.block _ (lt_heap hS2)).trans hS2) (fun hS3 => ?_)
          clear hK K
          refine Ol.way_ready (rs := [3]) (by as_aux_lemma => kernel_rfl) (by simp) (Ol.Each.cons rfl (fun K hK => ?_) Ol.Each.nil)
          go_simp
          have hb4 := Ve.below_n1 z3 (.cells #[] 3)
          have hW4 := World.ownsRow_lit (e := 3) (size := 1) z3 #[] 0 (Nat.le_refl _) (by unfold maxLen; omega) rfl
          obtain ⟨z4, hz4_⟩ : ∃ y, z3.alloc (.cells #[] 3) = y := ⟨_, rfl⟩
          rw [hz4_] at hb4 hW4 ⊢
          clear hz4_
          have hs4 := hb4.size
          have HU4 := Lib.hid (HU3.out.trans (hb4.mono HU3.out.size))
          have hR4 := (hb4.block _ (lt_heap hR3)).trans hR3
          have RL4 := Lib.hid (RL3.out.keep (fun b hb => hb4.block b (by omega)))
          have hQ4 := (hb4.block _ (lt_heap hQ3)).trans hQ3
          have B4 := Lib.hid (own_via (w' := z4) B3.out (fun r hr => by simp [Value.ownBlock] at hr; subst hr; exact hb4.block _ (by omega)))
          obtain ⟨A_, hA_⟩ : ∃ x, x = z3.heap.size := ⟨_, rfl⟩
          rw [← hA_] at hW4 ⊢
          have A4 := Lib.hid hW4
          have hltA4 := (hW4.lt A_ rfl).2
          have haA : A_ ≤ z3.heap.size := by omega
          have hb_A : z3.heap.size ≤ A_ := by omega
          clear hW4 hA_
          refine Ol.keep hK _ _ ((hb4.block _ (lt_heap hS3)).trans hS3) (fun hS4 => ?_)
          clear hK K
          refine Ol.way_ready (rs := [6]) (by as_aux_lemma => kernel_rfl) (by simp) (Ol.Each.cons rfl (fun K hK => ?_) Ol.Each.nil)
          refine app_int ji jz0 jz1 jz2 A_ A4.out HU4.out (by have := HU4.out.size; omega) ax cx S (HS_.out.on HU4.out) KS.out bs ⟨rfl, rfl⟩ ⟨rfl, rfl⟩ ?_
          intro a_s c_s z5 hgrow hs5 HU5 hRR
          have hR5 := (hgrow.block _ (lt_heap hR4) (by simp; omega)).trans hR4
          have RL5 := Lib.hid (RL4.out.keep (fun b hb => hgrow.block b (by omega) (by simp; omega)))
          have hQ5 := (hgrow.block _ (lt_heap hQ4) (by simp; omega)).trans hQ4
          have B5 := Lib.hid (own_via (w' := z5) B4.out (fun r hr => by simp [Value.ownBlock] at hr; subst hr; exact hgrow.block _ (by omega) (by simp; omega)))
          have RA5 := Lib.hid hRR
          clear hRR
          refine Ol.keep hK _ _ ((hgrow.block _ (lt_heap hS4) (by simp; omega)).trans hS4) (fun hS5 => ?_)
          clear hK K
          refine Ol.way_ready (rs := [10]) (by as_aux_lemma => kernel_rfl) (by simp) (Ol.Each.cons rfl (fun K hK => ?_) Ol.Each.nil)
          refine app_int ji jz0 jz1 jz2 B_ B5.out HU5.out (by have := HU5.out.size; omega) af cf F (HF_.out.on HU5.out) KF.out bf ⟨rfl, rfl⟩ ⟨rfl, rfl⟩ ?_
          intro a_f c_f z6 hgrow hs6 HU6 hRR
          have hR6 := (hgrow.block _ (lt_heap hR5) (by simp; omega)).trans hR5
          have RL6 := Lib.hid (RL5.out.keep (fun b hb => hgrow.block b (by omega) (by simp; omega)))
          have hQ6 := (hgrow.block _ (lt_heap hQ5) (by simp; omega)).trans hQ5
          have RA6 := Lib.hid (RA5.out.keep (fun b hb => hgrow.block b (by omega) (by simp; omega)))
          have RB6 := Lib.hid hRR
          clear hRR
          refine Ol.keep hK _ _ ((hgrow.block _ (lt_heap hS5) (by simp; omega)).trans hS5) (fun hS6 => ?_)
          clear hK K
          refine Ol.way_plain (i := 11) (v := ?_) rfl (by as_aux_lemma => kernel_rfl) (by as_aux_lemma => kernel_rfl) (by as_aux_lemma => kernel_rfl) (fun _ _ _ h => h) (by decide) (Or.inl ⟨by kernel_rfl, by (intro wz _; go_simp; try with_reducible rfl)⟩) (Ol.on hS6) ?_
          go_simp
          refine Ol.way_ready (rs := [13]) (by as_aux_lemma => kernel_rfl) (by simp) (Ol.Each.cons rfl (fun K hK => ?_) Ol.Each.nil)
          refine step_store_row rfl 40 (.tmp 3) (.tmp 21) rfl _ (cqf W H a_l nl c_l a_s ns c_s a_f nf c_f) q 40 hQ6 rfl (by first | rfl | (go_simp; done) | (go_simp; rfl)) (by as_aux_lemma => kernel_rfl) rfl (by simp [Value.oneCell']) ?_
          have HC_ := Lib.hid (to_close (CQ := (cqf W H a_l nl c_l a_s ns c_s a_f nf c_f)) hQ6 hS6 hR6 HU6.out (by omega) (RL6.out.weak (fun b hb => by omega)) (RA6.out.weak (fun b hb => by omega)) (RB6.out.weak (fun b hb => by omega)))
          refine Ol.past hK (by as_aux_lemma => kernel_rfl) _ _ ?_
          clear hK K
          refine Ol.way_done (by as_aux_lemma => kernel_rfl) ?_ _
          go_wp2_with fail
          go_meet
          exact ⟨q, a_l, a_s, a_f, c_l, c_s, c_f, rfl, by omega, HC_.out⟩
    · go_simp
      have hb1 := Ve.below_n1 z0 (.cells #[] 3)
      have hW1 := World.ownsRow_lit (e := 3) (size := 1) z0 #[] 0 (Nat.le_refl _) (by unfold maxLen; omega) rfl
      obtain ⟨z1, hz1_⟩ : ∃ y, z0.alloc (.cells #[] 3) = y := ⟨_, rfl⟩
      rw [hz1_] at hb1 hW1 ⊢
      clear hz1_
      have hs1 := hb1.size
      have HU1 := Lib.hid (HU0.out.trans (hb1.mono HU0.out.size))
      have hR1 := (hb1.block _ (lt_heap hR0)).trans hR0
      obtain ⟨A_, hA_⟩ : ∃ x, x = z0.heap.size := ⟨_, rfl⟩
      rw [← hA_] at hW1 ⊢
      have A1 := Lib.hid hW1
      have hltA1 := (hW1.lt A_ rfl).2
      have haA : A_ ≤ z0.heap.size := by omega
      have hb_A : z0.heap.size ≤ A_ := by omega
      clear hW1 hA_
      refine Ol.keep hK _ _ ((hb1.block _ (lt_heap hS0)).trans hS0) (fun hS1 => ?_)
      clear hK K
      refine Ol.way_ready (rs := [2, 7, 12]) (by as_aux_lemma => kernel_rfl) (by simp) (Ol.Each.cons rfl (fun K hK => ?_) (Ol.Each.cons rfl (fun K hK => ?_) (Ol.Each.cons rfl (fun K hK => ?_) Ol.Each.nil)))
      · go_simp
        go_wp2_with (go_at_call 28; refine (tosheet_any W H al nl cl L _ (HL_.out.on HU1.out) bl).mono ?_; rintro e z2 ⟨⟨a_l, c_l, rfl, hla⟩, hb2⟩)
        have hs2 := hb2.size
        have HU2 := Lib.hid (HU1.out.trans (hb2.mono HU1.out.size))
        have hR2 := (hb2.block _ (lt_heap hR1)).trans hR1
        have A2 := Lib.hid (own_via (w' := z2) A1.out (fun r hr => by simp [Value.ownBlock] at hr; subst hr; exact hb2.block _ (by omega)))
        have RL2 := Lib.hid (RwP.weak (P' := fun b => z1.heap.size ≤ b ∧ b < z2.heap.size) (hla.lt (by decide)) (fun b hb => hb))
        clear hla
        refine Ol.keep hK _ _ ((hb2.block _ (lt_heap hS1)).trans hS1) (fun hS2 => ?_)
        clear hK K
        refine Ol.way_ready (rs := [6, 7, 12]) (by as_aux_lemma => kernel_rfl) (by simp) (Ol.Each.cons rfl (fun K hK => ?_) (Ol.Each.cons rfl (fun K hK => ?_) (Ol.Each.cons rfl (fun K hK => ?_) Ol.Each.nil)))
        · refine app_int ji jz0 jz1 jz2 A_ A2.out HU2.out (by have := HU2.out.size; omega) ax cx S (HS_.out.on HU2.out) KS.out bs ⟨rfl, rfl⟩ ⟨rfl, rfl⟩ ?_
          intro a_s c_s z3 hgrow hs3 HU3 hRR
          have hR3 := (hgrow.block _ (lt_heap hR2) (by simp; omega)).trans hR2
          have RL3 := Lib.hid (RL2.out.keep (fun b hb => hgrow.block b (by omega) (by simp; omega)))
          have RA3 := Lib.hid hRR
          clear hRR
          refine Ol.keep hK _ _ ((hgrow.block _ (lt_heap hS2) (by simp; omega)).trans hS2) (fun hS3 => ?_)
          clear hK K
          refine Ol.way_ready (rs := [7, 12]) (by as_aux_lemma => kernel_rfl) (by simp) (Ol.Each.cons rfl (fun K hK => ?_) (Ol.Each.cons rfl (fun K hK => ?_) Ol.Each.nil))
          · go_simp
            have hb4 := Ve.below_n1 z3 (.cells #[] 3)
            have hW4 := World.ownsRow_lit (e := 3) (size := 1) z3 #[] 0 (Nat.le_refl _) (by unfold maxLen; omega) rfl
            obtain ⟨z4, hz4_⟩ : ∃ y, z3.alloc (.cells #[] 3) = y := ⟨_, rfl⟩
            rw [hz4_] at hb4 hW4 ⊢
            clear hz4_
            have hs4 := hb4.size
            have HU4 := Lib.hid (HU3.out.trans (hb4.mono HU3.out.size))
            have hR4 := (hb4.block _ (lt_heap hR3)).trans hR3
            have RL4 := Lib.hid (RL3.out.keep (fun b hb => hb4.block b (by omega)))
            have RA4 := Lib.hid (RA3.out.keep (fun b hb => hb4.block b (by omega)))
            obtain ⟨B_, hB_⟩ : ∃ x, x = z3.heap.size := ⟨_, rfl⟩
            rw [← hB_] at hW4 ⊢
            have B4 := Lib.hid hW4
            have hltB4 := (hW4.lt B_ rfl).2
            have haB : B_ ≤ z3.heap.size := by omega
            have hb_B : z3.heap.size ≤ B_ := by omega
            clear hW4 hB_
            refine Ol.keep hK _ _ ((hb4.block _ (lt_heap hS3)).trans hS3) (fun hS4 => ?_)
            clear hK K
            refine Ol.way_ready (rs := [10, 12]) (by as_aux_lemma => kernel_rfl) (by simp) (Ol.Each.cons rfl (fun K hK => ?_) (Ol.Each.cons rfl (fun K hK => ?_) Ol.Each.nil))
            · refine app_int ji jz0 jz1 jz2 B_ B4.out HU4.out (by have := HU4.out.size; omega) af cf F (HF_.out.on HU4.out) KF.out bf ⟨rfl, rfl⟩ ⟨rfl, rfl⟩ ?_
              intro a_f c_f z5 hgrow hs5 HU5 hRR
              have hR5 := (hgrow.block _ (lt_heap hR4) (by simp; omega)).trans hR4
              have RL5 := Lib.hid (RL4.out.keep (fun b hb => hgrow.block b (by omega) (by simp; omega)))
              have RA5 := Lib.hid (RA4.out.keep (fun b hb => hgrow.block b (by omega) (by simp; omega)))
              have RB5 := Lib.hid hRR
              clear hRR
              refine Ol.keep hK _ _ ((hgrow.block _ (lt_heap hS4) (by simp; omega)).trans hS4) (fun hS5 => ?_)
              clear hK K
              refine Ol.way_plain (i := 11) (v := ?_) rfl (by as_aux_lemma => kernel_rfl) (by as_aux_lemma => kernel_rfl) (by as_aux_lemma => kernel_rfl) (fun _ _ _ h => h) (by decide) (Or.inl ⟨by kernel_rfl, by (intro wz _; go_simp; try with_reducible rfl)⟩) (Ol.on hS5) ?_
              go_simp
              refine Ol.way_ready (rs := [12]) (by as_aux_lemma => kernel_rfl) (by simp) (Ol.Each.cons rfl (fun K hK => ?_) Ol.Each.nil)
              go_simp
              have hb6 := Ve.below_n1 z5 ZFo
              have hN := heap_alloc_last z5 ZFo
              obtain ⟨z6, hz6_⟩ : ∃ y, z5.alloc ZFo = y := ⟨_, rfl⟩
              rw [hz6_] at hb6 hN ⊢
              clear hz6_
              have hs6 := hb6.size
              have HU6 := Lib.hid (HU5.out.trans (hb6.mono HU5.out.size))
              have hR6 := (hb6.block _ (lt_heap hR5)).trans hR5
              have RL6 := Lib.hid (RL5.out.keep (fun b hb => hb6.block b (by omega)))
              have RA6 := Lib.hid (RA5.out.keep (fun b hb => hb6.block b (by omega)))
              have RB6 := Lib.hid (RB5.out.keep (fun b hb => hb6.block b (by omega)))
              obtain ⟨q, hq⟩ : ∃ q, q = z5.heap.size := ⟨_, rfl⟩
              rw [← hq] at hN ⊢
              have hQ6 := hN
              have hltq6 := lt_heap hN
              have hqa : q ≤ z5.heap.size := by omega
              have hqb : z5.heap.size ≤ q := by omega
              clear hN hq
              refine Ol.keep hK _ _ ((hb6.block _ (lt_heap hS5)).trans hS5) (fun hS6 => ?_)
              clear hK K
              refine Ol.way_ready (rs := [13]) (by as_aux_lemma => kernel_rfl) (by simp) (Ol.Each.cons rfl (fun K hK => ?_) Ol.Each.nil)
              refine step_store_row rfl 40 (.tmp 3) (.tmp 21) rfl _ (cqf W H a_l nl c_l a_s ns c_s a_f nf c_f) q 40 hQ6 rfl (by first | rfl | (go_simp; done) | (go_simp; rfl)) (by as_aux_lemma => kernel_rfl) rfl (by simp [Value.oneCell']) ?_
              have HC_ := Lib.hid (to_close (CQ := (cqf W H a_l nl c_l a_s ns c_s a_f nf c_f)) hQ6 hS6 hR6 HU6.out (by omega) (RL6.out.weak (fun b hb => by omega)) (RA6.out.weak (fun b hb => by omega)) (RB6.out.weak (fun b hb => by omega)))
              refine Ol.past hK (by as_aux_lemma => kernel_rfl) _ _ ?_
              clear hK K
              refine Ol.way_done (by as_aux_lemma => kernel_rfl) ?_ _
              go_wp2_with fail
              go_meet
              exact ⟨q, a_l, a_s, a_f, c_l, c_s, c_f, rfl, by omega, HC_.out⟩
            · go_simp
              have hb5 := Ve.below_n1 z4 ZFo
              have hN := heap_alloc_last z4 ZFo
              obtain ⟨z5, hz5_⟩ : ∃ y, z4.alloc ZFo = y := ⟨_, rfl⟩
              rw [hz5_] at hb5 hN ⊢
              clear hz5_
              have hs5 := hb5.size
              have HU5 := Lib.hid (HU4.out.trans (hb5.mono HU4.out.size))
              have hR5 := (hb5.block _ (lt_heap hR4)).trans hR4
              have RL5 := Lib.hid (RL4.out.keep (fun b hb => hb5.block b (by omega)))
              have RA5 := Lib.hid (RA4.out.keep (fun b hb => hb5.block b (by omega)))
              have B5 := Lib.hid (own_via (w' := z5) B4.out (fun r hr => by simp [Value.ownBlock] at hr; subst hr; exact hb5.block _ (by omega)))
              obtain ⟨q, hq⟩ : ∃ q, q = z4.heap.size := ⟨_, rfl⟩
              rw [← hq] at hN ⊢
              have hQ5 := hN
              have hltq5 := lt_heap hN
              have hqa : q ≤ z4.heap.size := by omega
              have hqb : z4.heap.size ≤ q := by omega
              clear hN hq
              refine Ol.keep hK _ _ ((hb5.block _ (lt_heap hS4)).trans hS4) (fun hS5 => ?_)
              clear hK K
              refine Ol.way_ready (rs := [10]) (by as_aux_lemma => kernel_rfl) (by simp) (Ol.Each.cons rfl (fun K hK => ?_) Ol.Each.nil)
              refine app_int ji jz0 jz1 jz2 B_ B5.out HU5.out (by have := HU5.out.size; omega) af cf F (HF_.out.on HU5.out) KF.out bf ⟨rfl, rfl⟩ ⟨rfl, rfl⟩ ?_
              intro a_f c_f z6 hgrow hs6 HU6 hRR
              have hR6 := (hgrow.block _ (lt_heap hR5) (by simp; omega)).trans hR5
              have RL6 := Lib.hid (RL5.out.keep (fun b hb => hgrow.block b (by omega) (by simp; omega)))
              have RA6 := Lib.hid (RA5.out.keep (fun b hb => hgrow.block b (by omega) (by simp; omega)))
              have hQ6 := (hgrow.block _ (lt_heap hQ5) (by simp; omega)).trans hQ5
              have RB6 := Lib.hid hRR
              clear hRR
              refine Ol.keep hK _ _ ((hgrow.block _ (lt_heap hS5) (by simp; omega)).trans hS5) (fun hS6 => ?_)
              clear hK K
              refine Ol.way_plain (i := 11) (v := ?_) rfl (by as_aux_lemma => kernel_rfl) (by as_aux_lemma => kernel_rfl) (by as_aux_lemma => kernel_rfl) (fun _ _ _ h => h) (by decide) (Or.inl ⟨by kernel_rfl, by (intro wz _; go_simp; try with_reducible rfl)⟩) (Ol.on hS6) ?_
              go_simp
              refine Ol.way_ready (rs := [13]) (by as_aux_lemma => kernel_rfl) (by simp) (Ol.Each.cons rfl (fun K hK => ?_) Ol.Each.nil)
              refine step_store_row rfl 40 (.tmp 3) (.tmp 21) rfl _ (cqf W H a_l nl c_l a_s ns c_s a_f nf c_f) q 40 hQ6 rfl (by first | rfl | (go_simp; done) | (go_simp; rfl)) (by as_aux_lemma => kernel_rfl) rfl (by simp [Value.oneCell']) ?_
              have HC_ := Lib.hid (to_close (CQ := (cqf W H a_l nl c_l a_s ns c_s a_f nf c_f)) hQ6 hS6 hR6 HU6.out (by omega) (RL6.out.weak (fun b hb => by omega)) (RA6.out.weak (fun b hb => by omega)) (RB6.out.weak (fun b hb => by omega)))
              refine Ol.past hK (by as_aux_lemma => kernel_rfl) _ _ ?_
              clear hK K
              refine Ol.way_done (by as_aux_lemma => kernel_rfl) ?_ _
              go_wp2_with fail
              go_meet
              exact ⟨q, a_l, a_s, a_f, c_l, c_s, c_f, rfl, by omega, HC_.out⟩
          · go_simp
            have hb4 := Ve.below_n1 z3 ZFo
            have hN := heap_alloc_last z3 ZFo
            obtain ⟨z4, hz4_⟩ : ∃ y, z3.alloc ZFo = y := ⟨_, rfl⟩
            rw [hz4_] at hb4 hN ⊢
            clear hz4_
            have hs4 := hb4.size
            have HU4 := Lib.hid (HU3.out.trans (hb4.mono HU3.out.size))
            have hR4 := (hb4.block _ (lt_heap hR3)).trans hR3
            have RL4 := Lib.hid (RL3.out.keep (fun b hb => hb4.block b (by omega)))
            have RA4 := Lib.hid (RA3.out.keep (fun b hb => hb4.block b (by omega)))
            obtain ⟨q, hq⟩ : ∃ q, q = z3.heap.size := ⟨_, rfl⟩
            rw [← hq] at hN ⊢
            have hQ4 := hN
            have hltq4 := lt_heap hN
            have hqa : q ≤ z3.heap.size := by omega
            have hqb : z3.heap.size ≤ q := by omega
            clear hN hq
            refine Ol.keep hK _ _ ((hb4.block _ (lt_heap hS3)).trans hS3) (fun hS4 => ?_)
            clear hK K
            refine Ol.way_ready (rs := [7]) (by as_aux_lemma => kernel_rfl) (by simp) (Ol.Each.cons rfl (fun K hK => ?_) Ol.Each.nil)
            go_simp
            have hb5 := Ve.below_n1 z4 (.cells #[] 3)
            have hW5 := World.ownsRow_lit (e := 3) (size := 1) z4 #[] 0 (Nat.le_refl _) (by unfold maxLen; omega) rfl
            obtain ⟨z5, hz5_⟩ : ∃ y, z4.alloc (.cells #[] 3) = y := ⟨_, rfl⟩
            rw [hz5_] at hb5 hW5 ⊢
            clear hz5_
            have hs5 := hb5.size
            have HU5 := Lib.hid (HU4.out.trans (hb5.mono HU4.out.size))
            have hR5 := (hb5.block _ (lt_heap hR4)).trans hR4
            have RL5 := Lib.hid (RL4.out.keep (fun b hb => hb5.block b (by omega)))
            have RA5 := Lib.hid (RA4.out.keep (fun b hb => hb5.block b (by omega)))
            have hQ5 := (hb5.block _ (lt_heap hQ4)).trans hQ4
            obtain ⟨B_, hB_⟩ : ∃ x, x = z4.heap.size := ⟨_, rfl⟩
            rw [← hB_] at hW5 ⊢
            have B5 := Lib.hid hW5
            have hltB5 := (hW5.lt B_ rfl).2
            have haB : B_ ≤ z4.heap.size := by omega
            have hb_B : z4.heap.size ≤ B_ := by omega
            clear hW5 hB_
            refine Ol.keep hK _ _ ((hb5.block _ (lt_heap hS4)).trans hS4) (fun hS5 => ?_)
            clear hK K
            refine Ol.way_ready (rs := [10]) (by as_aux_lemma => kernel_rfl) (by simp) (Ol.Each.cons rfl (fun K hK => ?_) Ol.Each.nil)
            refine app_int ji jz0 jz1 jz2 B_ B5.out HU5.out (by have := HU5.out.size; omega) af cf F (HF_.out.on HU5.out) KF.out bf ⟨rfl, rfl⟩ ⟨rfl, rfl⟩ ?_
            intro a_f c_f z6 hgrow hs6 HU6 hRR
            have hR6 := (hgrow.block _ (lt_heap hR5) (by simp; omega)).trans hR5
            have RL6 := Lib.hid (RL5.out.keep (fun b hb => hgrow.block b (by omega) (by simp; omega)))
            have RA6 := Lib.hid (RA5.out.keep (fun b hb => hgrow.block b (by omega) (by simp; omega)))
            have hQ6 := (hgrow.block _ (lt_heap hQ5) (by simp; omega)).trans hQ5
            have RB6 := Lib.hid hRR
            clear hRR
            refine Ol.keep hK _ _ ((hgrow.block _ (lt_heap hS5) (by simp; omega)).trans hS5) (fun hS6 => ?_)
            clear hK K
            refine Ol.way_plain (i := 11) (v := ?_) rfl (by as_aux_lemma => kernel_rfl) (by as_aux_lemma => kernel_rfl) (by as_aux_lemma => kernel_rfl) (fun _ _ _ h => h) (by decide) (Or.inl ⟨by kernel_rfl, by (intro wz _; go_simp; try with_reducible rfl)⟩) (Ol.on hS6) ?_
            go_simp
            refine Ol.way_ready (rs := [13]) (by as_aux_lemma => kernel_rfl) (by simp) (Ol.Each.cons rfl (fun K hK => ?_) Ol.Each.nil)
            refine step_store_row rfl 40 (.tmp 3) (.tmp 21) rfl _ (cqf W H a_l nl c_l a_s ns c_s a_f nf c_f) q 40 hQ6 rfl (by first | rfl | (go_simp; done) | (go_simp; rfl)) (by as_aux_lemma => kernel_rfl) rfl (by simp [Value.oneCell']) ?_
            have HC_ := Lib.hid (to_close (CQ := (cqf W H a_l nl c_l a_s ns c_s a_f nf c_f)) hQ6 hS6 hR6 HU6.out (by omega) (RL6.out.weak (fun b hb => by omega)) (RA6.out.weak (fun b hb => by omega)) (RB6.out.weak (fun b hb => by omega)))
            refine Ol.past hK (by as_aux_lemma => kernel_rfl) _ _ ?_
            clear hK K
            refine Ol.way_done (by as_aux_lemma => kernel_rfl) ?_ _
            go_wp2_with fail
            go_meet
            exact ⟨q, a_l, a_s, a_f, c_l, c_s, c_f, rfl, by omega, HC_.out⟩
        · go_simp
          have hb3 := Ve.below_n1 z2 (.cells #[] 3)
          have hW3 := World.ownsRow_lit (e := 3) (size := 1) z2 #[] 0 (Nat.le_refl _) (by unfold maxLen; omega) rfl
          obtain ⟨z3, hz3_⟩ : ∃ y, z2.alloc (.cells #[] 3) = y := ⟨_, rfl⟩
          rw [hz3_] at hb3 hW3 ⊢
          clear hz3_
          have hs3 := hb3.size
          have HU3 := Lib.hid (HU2.out.trans (hb3.mono HU2.out.size))
          have hR3 := (hb3.block _ (lt_heap hR2)).trans hR2
          have A3 := Lib.hid (own_via (w' := z3) A2.out (fun r hr => by simp [Value.ownBlock] at hr; subst hr; exact hb3.block _ (by omega)))
          have RL3 := Lib.hid (RL2.out.keep (fun b hb => hb3.block b (by omega)))
          obtain ⟨B_, hB_⟩ : ∃ x, x = z2.heap.size := ⟨_, rfl⟩
          rw [← hB_] at hW3 ⊢
          have B3 := Lib.hid hW3
          have hltB3 := (hW3.lt B_ rfl).2
          have haB : B_ ≤ z2.heap.size := by omega
          have hb_B : z2.heap.size ≤ B_ := by omega
          clear hW3 hB_
          refine Ol.keep hK _ _ ((hb3.block _ (lt_heap hS2)).trans hS2) (fun hS3 => ?_)
          clear hK K
          refine Ol.way_ready (rs := [6, 12]) (by as_aux_lemma => kernel_rfl) (by simp) (Ol.Each.cons rfl (fun K hK => ?_) (Ol.Each.cons rfl (fun K hK => ?_) Ol.Each.nil))
          · refine app_int ji jz0 jz1 jz2 A_ A3.out HU3.out (by have := HU3.out.size; omega) ax cx S (HS_.out.on HU3.out) KS.out bs ⟨rfl, rfl⟩ ⟨rfl, rfl⟩ ?_
            intro a_s c_s z4 hgrow hs4 HU4 hRR
            have hR4 := (hgrow.block _ (lt_heap hR3) (by simp; omega)).trans hR3
            have RL4 := Lib.hid (RL3.out.keep (fun b hb => hgrow.block b (by omega) (by simp; omega)))
            have B4 := Lib.hid (own_via (w' := z4) B3.out (fun r hr => by simp [Value.ownBlock] at hr; subst hr; exact hgrow.block _ (by omega) (by simp; omega)))
            have RA4 := Lib.hid hRR
            clear hRR
            refine Ol.keep hK _ _ ((hgrow.block _ (lt_heap hS3) (by simp; omega)).trans hS3) (fun hS4 => ?_)
            clear hK K
            refine Ol.way_ready (rs := [10, 12]) (by as_aux_lemma => kernel_rfl) (by simp) (Ol.Each.cons rfl (fun K hK => ?_) (Ol.Each.cons rfl (fun K hK => ?_) Ol.Each.nil))
            · refine app_int ji jz0 jz1 jz2 B_ B4.out HU4.out (by have := HU4.out.size; omega) af cf F (HF_.out.on HU4.out) KF.out bf ⟨rfl, rfl⟩ ⟨rfl, rfl⟩ ?_
              intro a_f c_f z5 hgrow hs5 HU5 hRR
              have hR5 := (hgrow.block _ (lt_heap hR4) (by simp; omega)).trans hR4
              have RL5 := Lib.hid (RL4.out.keep (fun b hb => hgrow.block b (by omega) (by simp; omega)))
              have RA5 := Lib.hid (RA4.out.keep (fun b hb => hgrow.block b (by omega) (by simp; omega)))
              have RB5 := Lib.hid hRR
              clear hRR
              refine Ol.keep hK _ _ ((hgrow.block _ (lt_heap hS4) (by simp; omega)).trans hS4) (fun hS5 => ?_)
              clear hK K
              refine Ol.way_plain (i := 11) (v := ?_) rfl (by as_aux_lemma => kernel_rfl) (by as_aux_lemma => kernel_rfl) (by as_aux_lemma => kernel_rfl) (fun _ _ _ h => h) (by decide) (Or.inl ⟨by kernel_rfl, by (intro wz _; go_simp; try with_reducible rfl)⟩) (Ol.on hS5) ?_
              go_simp
              refine Ol.way_ready (rs := [12]) (by as_aux_lemma => kernel_rfl) (by simp) (Ol.Each.cons rfl (fun K hK => ?_) Ol.Each.nil)
              go_simp
              have hb6 := Ve.below_n1 z5 ZFo
              have hN := heap_alloc_last z5 ZFo
              obtain ⟨z6, hz6_⟩ : ∃ y, z5.alloc ZFo = y := ⟨_, rfl⟩
              rw [hz6_] at hb6 hN ⊢
              clear hz6_
              have hs6 := hb6.size
              have HU6 := Lib.hid (HU5.out.trans (hb6.mono HU5.out.size))
              have hR6 := (hb6.block _ (lt_heap hR5)).trans hR5
              have RL6 := Lib.hid (RL5.out.keep (fun b hb => hb6.block b (by omega)))
              have RA6 := Lib.hid (RA5.out.keep (fun b hb => hb6.block b (by omega)))
              have RB6 := Lib.hid (RB5.out.keep (fun b hb => hb6.block b (by omega)))
              obtain ⟨q, hq⟩ : ∃ q, q = z5.heap.size := ⟨_, rfl⟩
              rw [← hq] at hN ⊢
              have hQ6 := hN
              have hltq6 := lt_heap hN
              have hqa : q ≤ z5.heap.size := by omega
              have hqb : z5.heap.size ≤ q := by omega
              clear hN hq
              refine Ol.keep hK _ _ ((hb6.block _ (lt_heap hS5)).trans hS5) (fun hS6 => ?_)
              clear hK K
              refine Ol.way_ready (rs := [13]) (by as_aux_lemma => kernel_rfl) (by simp) (Ol.Each.cons rfl (fun K hK => ?_) Ol.Each.nil)
              refine step_store_row rfl 40 (.tmp 3) (.tmp 21) rfl _ (cqf W H a_l nl c_l a_s ns c_s a_f nf c_f) q 40 hQ6 rfl (by first | rfl | (go_simp; done) | (go_simp; rfl)) (by as_aux_lemma => kernel_rfl) rfl (by simp [Value.oneCell']) ?_
              have HC_ := Lib.hid (to_close (CQ := (cqf W H a_l nl c_l a_s ns c_s a_f nf c_f)) hQ6 hS6 hR6 HU6.out (by omega) (RL6.out.weak (fun b hb => by omega)) (RA6.out.weak (fun b hb => by omega)) (RB6.out.weak (fun b hb => by omega)))
              refine Ol.past hK (by as_aux_lemma => kernel_rfl) _ _ ?_
              clear hK K
              refine Ol.way_done (by as_aux_lemma => kernel_rfl) ?_ _
              go_wp2_with fail
              go_meet
              exact ⟨q, a_l, a_s, a_f, c_l, c_s, c_f, rfl, by omega, HC_.out⟩
            · go_simp
              have hb5 := Ve.below_n1 z4 ZFo
              have hN := heap_alloc_last z4 ZFo
              obtain ⟨z5, hz5_⟩ : ∃ y, z4.alloc ZFo = y := ⟨_, rfl⟩
              rw [hz5_] at hb5 hN ⊢
              clear hz5_
              have hs5 := hb5.size
              have HU5 := Lib.hid (HU4.out.trans (hb5.mono HU4.out.size))
              have hR5 := (hb5.block _ (lt_heap hR4)).trans hR4
              have RL5 := Lib.hid (RL4.out.keep (fun b hb => hb5.block b (by omega)))
              have B5 := Lib.hid (own_via (w' := z5) B4.out (fun r hr => by simp [Value.ownBlock] at hr; subst hr; exact hb5.block _ (by omega)))
              have RA5 := Lib.hid (RA4.out.keep (fun b hb => hb5.block b (by omega)))
              obtain ⟨q, hq⟩ : ∃ q, q = z4.heap.size := ⟨_, rfl⟩
              rw [← hq] at hN ⊢
              have hQ5 := hN
              have hltq5 := lt_heap hN
              have hqa : q ≤ z4.heap.size := by omega
              have hqb : z4.heap.size ≤ q := by omega
              clear hN hq
              refine Ol.keep hK _ _ ((hb5.block _ (lt_heap hS4)).trans hS4) (fun hS5 => ?_)
              clear hK K
              refine Ol.way_ready (rs := [10]) (by as_aux_lemma => kernel_rfl) (by simp) (Ol.Each.cons rfl (fun K hK => ?_) Ol.Each.nil)
              refine app_int ji jz0 jz1 jz2 B_ B5.out HU5.out (by have := HU5.out.size; omega) af cf F (HF_.out.on HU5.out) KF.out bf ⟨rfl, rfl⟩ ⟨rfl, rfl⟩ ?_
              intro a_f c_f z6 hgrow hs6 HU6 hRR
              have hR6 := (hgrow.block _ (lt_heap hR5) (by simp; omega)).trans hR5
              have RL6 := Lib.hid (RL5.out.keep (fun b hb => hgrow.block b (by omega) (by simp; omega)))
              have RA6 := Lib.hid (RA5.out.keep (fun b hb => hgrow.block b (by omega) (by simp; omega)))
              have hQ6 := (hgrow.block _ (lt_heap hQ5) (by simp; omega)).trans hQ5
              have RB6 := Lib.hid hRR
              clear hRR
              refine Ol.keep hK _ _ ((hgrow.block _ (lt_heap hS5) (by simp; omega)).trans hS5) (fun hS6 => ?_)
              clear hK K
              refine Ol.way_plain (i := 11) (v := ?_) rfl (by as_aux_lemma => kernel_rfl) (by as_aux_lemma => kernel_rfl) (by as_aux_lemma => kernel_rfl) (fun _ _ _ h => h) (by decide) (Or.inl ⟨by kernel_rfl, by (intro wz _; go_simp; try with_reducible rfl)⟩) (Ol.on hS6) ?_
              go_simp
              refine Ol.way_ready (rs := [13]) (by as_aux_lemma => kernel_rfl) (by simp) (Ol.Each.cons rfl (fun K hK => ?_) Ol.Each.nil)
              refine step_store_row rfl 40 (.tmp 3) (.tmp 21) rfl _ (cqf W H a_l nl c_l a_s ns c_s a_f nf c_f) q 40 hQ6 rfl (by first | rfl | (go_simp; done) | (go_simp; rfl)) (by as_aux_lemma => kernel_rfl) rfl (by simp [Value.oneCell']) ?_
              have HC_ := Lib.hid (to_close (CQ := (cqf W H a_l nl c_l a_s ns c_s a_f nf c_f)) hQ6 hS6 hR6 HU6.out (by omega) (RL6.out.weak (fun b hb => by omega)) (RA6.out.weak (fun b hb => by omega)) (RB6.out.weak (fun b hb => by omega)))
              refine Ol.past hK (by as_aux_lemma => kernel_rfl) _ _ ?_
              clear hK K
              refine Ol.way_done (by as_aux_lemma => kernel_rfl) ?_ _
              go_wp2_with fail
              go_meet
              exact ⟨q, a_l, a_s, a_f, c_l, c_s, c_f, rfl, by omega, HC_.out⟩
          · go_simp
            have hb4 := Ve.below_n1 z3 ZFo
            have hN := heap_alloc_last z3 ZFo
            obtain ⟨z4, hz4_⟩ : ∃ y, z3.alloc ZFo = y := ⟨_, rfl⟩
            rw [hz4_] at hb4 hN ⊢
            clear hz4_
            have hs4 := hb4.size
            have HU4 := Lib.hid (HU3.out.trans (hb4.mono HU3.out.size))
            have hR4 := (hb4.block _ (lt_heap hR3)).trans hR3
            have A4 := Lib.hid (own_via (w' := z4) A3.out (fun r hr => by simp [Value.ownBlock] at hr; subst hr; exact hb4.block _ (by omega)))
            have RL4 := Lib.hid (RL3.out.keep (fun b hb => hb4.block b (by omega)))
            have B4 := Lib.hid (own_via (w' := z4) B3.out (fun r hr => by simp [Value.ownBlock] at hr; subst hr; exact hb4.block _ (by omega)))
            obtain ⟨q, hq⟩ : ∃ q, q = z3.heap.size := ⟨_, rfl⟩
            rw [← hq] at hN ⊢
            have hQ4 := hN
            have hltq4 := lt_heap hN
            have hqa : q ≤ z3.heap.size := by omega
            have hqb : z3.heap.size ≤ q := by omega
            clear hN hq
            refine Ol.keep hK _ _ ((hb4.block _ (lt_heap hS3)).trans hS3) (fun hS4 => ?_)
            clear hK K
            refine Ol.way_ready (rs := [6]) (by as_aux_lemma => kernel_rfl) (by simp) (Ol.Each.cons rfl (fun K hK => ?_) Ol.Each.nil)
            refine app_int ji jz0 jz1 jz2 A_ A4.out HU4.out (by have := HU4.out.size; omega) ax cx S (HS_.out.on HU4.out) KS.out bs ⟨rfl, rfl⟩ ⟨rfl, rfl⟩ ?_
            intro a_s c_s z5 hgrow hs5 HU5 hRR
            have hR5 := (hgrow.block _ (lt_heap hR4) (by simp; omega)).trans hR4
            have RL5 := Lib.hid (RL4.out.keep (fun b hb => hgrow.block b (by omega) (by simp; omega)))
            have B5 := Lib.hid (own_via (w' := z5) B4.out (fun r hr => by simp [Value.ownBlock] at hr; subst hr; exact hgrow.block _ (by omega) (by simp; omega)))
            have hQ5 := (hgrow.block _ (lt_heap hQ4) (by simp; omega)).trans hQ4
            have RA5 := Lib.hid hRR
            clear hRR
            refine Ol.keep hK _ _ ((hgrow.block _ (lt_heap hS4) (by simp; omega)).trans hS4) (fun hS5 => ?_)
            clear hK K
            refine Ol.way_ready (rs := [10]) (by as_aux_lemma => kernel_rfl) (by simp) (Ol.Each.cons rfl (fun K hK => ?_) Ol.Each.nil)
            refine app_int ji jz0 jz1 jz2 B_ B5.out HU5.out (by have := HU5.out.size; omega) af cf F (HF_.out.on HU5.out) KF.out bf ⟨rfl, rfl⟩ ⟨rfl, rfl⟩ ?_
            intro a_f c_f z6 hgrow hs6 HU6 hRR
            have hR6 := (hgrow.block _ (lt_heap hR5) (by simp; omega)).trans hR5
            have RL6 := Lib.hid (RL5.out.keep (fun b hb => hgrow.block b (by omega) (by simp; omega)))
            have hQ6 := (hgrow.block _ (lt_heap hQ5) (by simp; omega)).trans hQ5
            have RA6 := Lib.hid (RA5.out.keep (fun b hb => hgrow.block b (by omega) (by simp; omega)))
            have RB6 := Lib.hid hRR
            clear hRR
            refine Ol.keep hK _ _ ((hgrow.block _ (lt_heap hS5) (by simp; omega)).trans hS5) (fun hS6 => ?_)
            clear hK K
            refine Ol.way_plain (i := 11) (v := ?_) rfl (by as_aux_lemma => kernel_rfl) (by as_aux_lemma => kernel_rfl) (by as_aux_lemma => kernel_rfl) (fun _ _ _ h => h) (by decide) (Or.inl ⟨by kernel_rfl, by (intro wz _; go_simp; try with_reducible rfl)⟩) (Ol.on hS6) ?_
            go_simp
            refine Ol.way_ready (rs := [13]) (by as_aux_lemma => kernel_rfl) (by simp) (Ol.Each.cons rfl (fun K hK => ?_) Ol.Each.nil)
            refine step_store_row rfl 40 (.tmp 3) (.tmp 21) rfl _ (cqf W H a_l nl c_l a_s ns c_s a_f nf c_f) q 40 hQ6 rfl (by first | rfl | (go_simp; done) | (go_simp; rfl)) (by as_aux_lemma => kernel_rfl) rfl (by simp [Value.oneCell']) ?_
            have HC_ := Lib.hid (to_close (CQ := (cqf W H a_l nl c_l a_s ns c_s a_f nf c_f)) hQ6 hS6 hR6 HU6.out (by omega) (RL6.out.weak (fun b hb => by omega)) (RA6.out.weak (fun b hb => by omega)) (RB6.out.weak (fun b hb => by omega)))
            refine Ol.past hK (by as_aux_lemma => kernel_rfl) _ _ ?_
            clear hK K
            refine Ol.way_done (by as_aux_lemma => kernel_rfl) ?_ _
            go_wp2_with fail
            go_meet
            exact ⟨q, a_l, a_s, a_f, c_l, c_s, c_f, rfl, by omega, HC_.out⟩
        · go_simp
          have hb3 := Ve.below_n1 z2 ZFo
          have hN := heap_alloc_last z2 ZFo
          obtain ⟨z3, hz3_⟩ : ∃ y, z2.alloc ZFo = y := ⟨_, rfl⟩
          rw [hz3_] at hb3 hN ⊢
          clear hz3_
          have hs3 := hb3.size
          have HU3 := Lib.hid (HU2.out.trans (hb3.mono HU2.out.size))
          have hR3 := (hb3.block _ (lt_heap hR2)).trans hR2
          have A3 := Lib.hid (own_via (w' := z3) A2.out (fun r hr => by simp [Value.ownBlock] at hr; subst hr; exact hb3.block _ (by omega)))
          have RL3 := Lib.hid (RL2.out.keep (fun b hb => hb3.block b (by omega)))
          obtain ⟨q, hq⟩ : ∃ q, q = z2.heap.size := ⟨_, rfl⟩
          rw [← hq] at hN ⊢
          have hQ3 := hN
          have hltq3 := lt_heap hN
          have hqa : q ≤ z2.heap.size := by omega
          have hqb : z2.heap.size ≤ q := by omega
          clear hN hq
          refine Ol.keep hK _ _ ((hb3.block _ (lt_heap hS2)).trans hS2) (fun hS3 => ?_)
          clear hK K
          refine Ol.way_ready (rs := [6, 7]) (by as_aux_lemma => kernel_rfl) (by simp) (Ol.Each.cons rfl (fun K hK => ?_) (Ol.Each.cons rfl (fun K hK => ?_) Ol.Each.nil))
          · refine app_int ji jz0 jz1 jz2 A_ A3.out HU3.out (by have := HU3.out.size; omega) ax cx S (HS_.out.on HU3.out) KS.out bs ⟨rfl, rfl⟩ ⟨rfl, rfl⟩ ?_
            intro a_s c_s z4 hgrow hs4 HU4 hRR
            have hR4 := (hgrow.block _ (lt_heap hR3) (by simp; omega)).trans hR3
            have RL4 := Lib.hid (RL3.out.keep (fun b hb => hgrow.block b (by omega) (by simp; omega)))
            have hQ4 := (hgrow.block _ (lt_heap hQ3) (by simp; omega)).trans hQ3
            have RA4 := Lib.hid hRR
            clear hRR
            refine Ol.keep hK _ _ ((hgrow.block _ (lt_heap hS3) (by simp; omega)).trans hS3) (fun hS4 => ?_)
            clear hK K
            refine Ol.way_ready (rs := [7]) (by as_aux_lemma => kernel_rfl) (by simp) (Ol.Each.cons rfl (fun K hK => ?_) Ol.Each.nil)
            go_simp
            have hb5 := Ve.below_n1 z4 (.cells #[] 3)
            have hW5 := World.ownsRow_lit (e := 3) (size := 1) z4 #[] 0 (Nat.le_refl _) (by unfold maxLen; omega) rfl
            obtain ⟨z5, hz5_⟩ : ∃ y, z4.alloc (.cells #[] 3) = y := ⟨_, rfl⟩
            rw [hz5_] at hb5 hW5 ⊢
            clear hz5_
            have hs5 := hb5.size
            have HU5 := Lib.hid (HU4.out.trans (hb5.mono HU4.out.size))
            have hR5 := (hb5.block _ (lt_heap hR4)).trans hR4
            have RL5 := Lib.hid (RL4.out.keep (fun b hb => hb5.block b (by omega)))
            have hQ5 := (hb5.block _ (lt_heap hQ4)).trans hQ4
            have RA5 := Lib.hid (RA4.out.keep (fun b hb => hb5.block b (by omega)))
            obtain ⟨B_, hB_⟩ : ∃ x, x = z4.heap.size := ⟨_, rfl⟩
            rw [← hB_] at hW5 ⊢
            have B5 := Lib.hid hW5
            have hltB5 := (hW5.lt B_ rfl).2
            have haB : B_ ≤ z4.heap.size := by omega
            have hb_B : z4.heap.size ≤ B_ := by omega
            clear hW5 hB_
            refine Ol.keep hK _ _ ((hb5.block _ (lt_heap hS4)).trans hS4) (fun hS5 => ?_)
            clear hK K
            refine Ol.way_ready (rs := [10]) (by as_aux_lemma => kernel_rfl) (by simp) (Ol.Each.cons rfl (fun K hK => ?_) Ol.Each.nil)
            refine app_int ji jz0 jz1 jz2 B_ B5.out HU5.out (by have := HU5.out.size; omega) af cf F (HF_.out.on HU5.out) KF.out bf ⟨rfl, rfl⟩ ⟨rfl, rfl⟩ ?_
            intro a_f c_f z6 hgrow hs6 HU6 hRR
            have hR6 := (hgrow.block _ (lt_heap hR5) (by simp; omega)).trans hR5
            have RL6 := Lib.hid (RL5.out.keep (fun b hb => hgrow.block b (by omega) (by simp; omega)))
            have hQ6 := (hgrow.block _ (lt_heap hQ5) (by simp; omega)).trans hQ5
            have RA6 := Lib.hid (RA5.out.keep (fun b hb => hgrow.block b (by omega) (by simp; omega)))
            have RB6 := Lib.hid hRR
            clear hRR
            refine Ol.keep hK _ _ ((hgrow.block _ (lt_heap hS5) (by simp; omega)).trans hS5) (fun hS6 => ?_)
            clear hK K
            refine Ol.way_plain (i := 11) (v := ?_) rfl (by as_aux_lemma => kernel_rfl) (by as_aux_lemma => kernel_rfl) (by as_aux_lemma => kernel_rfl) (fun _ _ _ h => h) (by decide) (Or.inl ⟨by kernel_rfl, by (intro wz _; go_simp; try with_reducible rfl)⟩) (Ol.on hS6) ?_
            go_simp
            refine Ol.way_ready (rs := [13]) (by as_aux_lemma => kernel_rfl) (by simp) (Ol.Each.cons rfl (fun K hK => ?_) Ol.Each.nil)
            refine step_store_row rfl 40 (.tmp 3) (.tmp 21) rfl _ (cqf W H a_l nl c_l a_s ns c_s a_f nf c_f) q 40 hQ6 rfl (by first | rfl | (go_simp; done) | (go_simp; rfl)) (by as_aux_lemma => kernel_rfl) rfl (by simp [Value.oneCell']) ?_
            have HC_ := Lib.hid (to_close (CQ := (cqf W H a_l nl c_l a_s ns c_s a_f nf c_f)) hQ6 hS6 hR6 HU6.out (by omega) (RL6.out.weak (fun b hb => by omega)) (RA6.out.weak (fun b hb => by omega)) (RB6.out.weak (fun b hb => by omega)))
            refine Ol.past hK (by as_aux_lemma => kernel_rfl) _ _ ?_
            clear hK K
            refine Ol.way_done (by as_aux_lemma => kernel_rfl) ?_ _
            go_wp2_with fail
            go_meet
            exact ⟨q, a_l, a_s, a_f, c_l, c_s, c_f, rfl, by omega, HC_.out⟩
          · go_simp
            have hb4 := Ve.below_n1 z3 (.cells #[] 3)
            have hW4 := World.ownsRow_lit (e := 3) (size := 1) z3 #[] 0 (Nat.le_refl _) (by unfold maxLen; omega) rfl
            obtain ⟨z4, hz4_⟩ : ∃ y, z3.alloc (.cells #[] 3) = y := ⟨_, rfl⟩
            rw [hz4_] at hb4 hW4 ⊢
            clear hz4_
            have hs4 := hb4.size
            have HU4 := Lib.hid (HU3.out.trans (hb4.mono HU3.out.size))
            have hR4 := (hb4.block _ (lt_heap hR3)).trans hR3
            have A4 := Lib.hid (own_via (w' := z4) A3.out (fun r hr => by simp [Value.ownBlock] at hr; subst hr; exact hb4.block _ (by omega)))
            have RL4 := Lib.hid (RL3.out.keep (fun b hb => hb4.block b (by omega)))
            have hQ4 := (hb4.block _ (lt_heap hQ3)).trans hQ3
            obtain ⟨B_, hB_⟩ : ∃ x, x = z3.heap.size := ⟨_, rfl⟩
            rw [← hB_] at hW4 ⊢
            have B4 := Lib.hid hW4
            have hltB4 := (hW4.lt B_ rfl).2
            have haB : B_ ≤ z3.heap.size := by omega
            have hb_B : z3.heap.size ≤ B_ := by omega
            clear hW4 hB_
            refine Ol.keep hK _ _ ((hb4.block _ (lt_heap hS3)).trans hS3) (fun hS4 => ?_)
            clear hK K
            refine Ol.way_ready (rs := [6]) (by as_aux_lemma => kernel_rfl) (by simp) (Ol.Each.cons rfl (fun K hK => ?_) Ol.Each.nil)
            refine app_int ji jz0 jz1 jz2 A_ A4.out HU4.out (by have := HU4.out.size; omega) ax cx S (HS_.out.on HU4.out) KS.out bs ⟨rfl, rfl⟩ ⟨rfl, rfl⟩ ?_
            intro a_s c_s z5 hgrow hs5 HU5 hRR
            have hR5 := (hgrow.block _ (lt_heap hR4) (by simp; omega)).trans hR4
            have RL5 := Lib.hid (RL4.out.keep (fun b hb => hgrow.block b (by omega) (by simp; omega)))
            have hQ5 := (hgrow.block _ (lt_heap hQ4) (by simp; omega)).trans hQ4
            have B5 := Lib.hid (own_via (w' := z5) B4.out (fun r hr => by simp [Value.ownBlock] at hr; subst hr; exact hgrow.block _ (by omega) (by simp; omega)))
            have RA5 := Lib.hid hRR
            clear hRR
            refine Ol.keep hK _ _ ((hgrow.block _ (lt_heap hS4) (by simp; omega)).trans hS4) (fun hS5 => ?_)
            clear hK K
            refine Ol.way_ready (rs := [10]) (by as_aux_lemma => kernel_rfl) (by simp) (Ol.Each.cons rfl (fun K hK => ?_) Ol.Each.nil)
            refine app_int ji jz0 jz1 jz2 B_ B5.out HU5.out (by have := HU5.out.size; omega) af cf F (HF_.out.on HU5.out) KF.out bf ⟨rfl, rfl⟩ ⟨rfl, rfl⟩ ?_
            intro a_f c_f z6 hgrow hs6 HU6 hRR
            have hR6 := (hgrow.block _ (lt_heap hR5) (by simp; omega)).trans hR5
            have RL6 := Lib.hid (RL5.out.keep (fun b hb => hgrow.block b (by omega) (by simp; omega)))
            have hQ6 := (hgrow.block _ (lt_heap hQ5) (by simp; omega)).trans hQ5
            have RA6 := Lib.hid (RA5.out.keep (fun b hb => hgrow.block b (by omega) (by simp; omega)))
            have RB6 := Lib.hid hRR
            clear hRR
            refine Ol.keep hK _ _ ((hgrow.block _ (lt_heap hS5) (by simp; omega)).trans hS5) (fun hS6 => ?_)
            clear hK K
            refine Ol.way_plain (i := 11) (v := ?_) rfl (by as_aux_lemma => kernel_rfl) (by as_aux_lemma => kernel_rfl) (by as_aux_lemma => kernel_rfl) (fun _ _ _ h => h) (by decide) (Or.inl ⟨by kernel_rfl, by (intro wz _; go_simp; try with_reducible rfl)⟩) (Ol.on hS6) ?_
            go_simp
            refine Ol.way_ready (rs := [13]) (by as_aux_lemma => kernel_rfl) (by simp) (Ol.Each.cons rfl (fun K hK => ?_) Ol.Each.nil)
            refine step_store_row rfl 40 (.tmp 3) (.tmp 21) rfl _ (cqf W H a_l nl c_l a_s ns c_s a_f nf c_f) q 40 hQ6 rfl (by first | rfl | (go_simp; done) | (go_simp; rfl)) (by as_aux_lemma => kernel_rfl) rfl (by simp [Value.oneCell']) ?_
            have HC_ := Lib.hid (to_close (CQ := (cqf W H a_l nl c_l a_s ns c_s a_f nf c_f)) hQ6 hS6 hR6 HU6.out (by omega) (RL6.out.weak (fun b hb => by omega)) (RA6.out.weak (fun b hb => by omega)) (RB6.out.weak (fun b hb => by omega)))
            refine Ol.past hK (by as_aux_lemma => kernel_rfl) _ _ ?_
            clear hK K
            refine Ol.way_done (by as_aux_lemma => kernel_rfl) ?_ _
            go_wp2_with fail
            go_meet
            exact ⟨q, a_l, a_s, a_f, c_l, c_s, c_f, rfl, by omega, HC_.out⟩
      · go_simp
        have hb2 := Ve.below_n1 z1 (.cells #[] 3)
        have hW2 := World.ownsRow_lit (e := 3) (size := 1) z1 #[] 0 (Nat.le_refl _) (by unfold maxLen; omega) rfl
        obtain ⟨z2, hz2_⟩ : ∃ y, z1.alloc (.cells #[] 3) = y := ⟨_, rfl⟩
        rw [hz2_] at hb2 hW2 ⊢
        clear hz2_
        have hs2 := hb2.size
        have HU2 := Lib.hid (HU1.out.trans (hb2.mono HU1.out.size))
        have hR2 := (hb2.block _ (lt_heap hR1)).trans hR1
        have A2 := Lib.hid (own_via (w' := z2) A1.out (fun r hr => by simp [Value.ownBlock] at hr; subst hr; exact hb2.block _ (by omega)))
        obtain ⟨B_, hB_⟩ : ∃ x, x = z1.heap.size := ⟨_, rfl⟩
        rw [← hB_] at hW2 ⊢
        have B2 := Lib.hid hW2
        have hltB2 := (hW2.lt B_ rfl).2
        have haB : B_ ≤ z1.heap.size := by omega
        have hb_B : z1.heap.size ≤ B_ := by omega
        clear hW2 hB_
        refine Ol.keep hK _ _ ((hb2.block _ (lt_heap hS1)).trans hS1) (fun hS2 => ?_)
        clear hK K
        refine Ol.way_ready (rs := [2, 12]) (by as_aux_lemma => kernel_rfl) (by simp) (Ol.Each.cons rfl (fun K hK => ?_) (Ol.Each.cons rfl (fun K hK => ?_) Ol.Each.nil))
        · go_simp
          go_wp2_with (go_at_call 28; refine (tosheet_any W H al nl cl L _ (HL_.out.on HU2.out) bl).mono ?_; rintro e z3 ⟨⟨a_l, c_l, rfl, hla⟩, hb3⟩)
          have hs3 := hb3.size
          have HU3 := Lib.hid (HU2.out.trans (hb3.mono HU2.out.size))
          have hR3 := (hb3.block _ (lt_heap hR2)).trans hR2
          have A3 := Lib.hid (own_via (w' := z3) A2.out (fun r hr => by simp [Value.ownBlock] at hr; subst hr; exact hb3.block _ (by omega)))
          have B3 := Lib.hid (own_via (w' := z3) B2.out (fun r hr => by simp [Value.ownBlock] at hr; subst hr; exact hb3.block _ (by omega)))
          have RL3 := Lib.hid (RwP.weak (P' := fun b => z2.heap.size ≤ b ∧ b < z3.heap.size) (hla.lt (by decide)) (fun b hb => hb))
          clear hla
          refine Ol.keep hK _ _ ((hb3.block _ (lt_heap hS2)).trans hS2) (fun hS3 => ?_)
          clear hK K
          refine Ol.way_ready (rs := [6, 12]) (by as_aux_lemma => kernel_rfl) (by simp) (Ol.Each.cons rfl (fun K hK => ?_) (Ol.Each.cons rfl (fun K hK => ?_) Ol.Each.nil))
          · refine app_int ji jz0 jz1 jz2 A_ A3.out HU3.out (by have := HU3.out.size; omega) ax cx S (HS_.out.on HU3.out) KS.out bs ⟨rfl, rfl⟩ ⟨rfl, rfl⟩ ?_
            intro a_s c_s z4 hgrow hs4 HU4 hRR
            have hR4 := (hgrow.block _ (lt_heap hR3) (by simp; omega)).trans hR3
            have B4 := Lib.hid (own_via (w' := z4) B3.out (fun r hr => by simp [Value.ownBlock] at hr; subst hr; exact hgrow.block _ (by omega) (by simp; omega)))
            have RL4 := Lib.hid (RL3.out.keep (fun b hb => hgrow.block b (by omega) (by simp; omega)))
            have RA4 := Lib.hid hRR
            clear hRR
            refine Ol.keep hK _ _ ((hgrow.block _ (lt_heap hS3) (by simp; omega)).trans hS3) (fun hS4 => ?_)
            clear hK K
            refine Ol.way_ready (rs := [10, 12]) (by as_aux_lemma => kernel_rfl) (by simp) (Ol.Each.cons rfl (fun K hK => ?_) (Ol.Each.cons rfl (fun K hK => ?_) Ol.Each.nil))
            · refine app_int ji jz0 jz1 jz2 B_ B4.out HU4.out (by have := HU4.out.size; omega) af cf F (HF_.out.on HU4.out) KF.out bf ⟨rfl, rfl⟩ ⟨rfl, rfl⟩ ?_
              intro a_f c_f z5 hgrow hs5 HU5 hRR
              have hR5 := (hgrow.block _ (lt_heap hR4) (by simp; omega)).trans hR4
              have RL5 := Lib.hid (RL4.out.keep (fun b hb => hgrow.block b (by omega) (by simp; omega)))
              have RA5 := Lib.hid (RA4.out.keep (fun b hb => hgrow.block b (by omega) (by simp; omega)))
              have RB5 := Lib.hid hRR
              clear hRR
              refine Ol.keep hK _ _ ((hgrow.block _ (lt_heap hS4) (by simp; omega)).trans hS4) (fun hS5 => ?_)
              clear hK K
              refine Ol.way_plain (i := 11) (v := ?_) rfl (by as_aux_lemma => kernel_rfl) (by as_aux_lemma => kernel_rfl) (by as_aux_lemma => kernel_rfl) (fun _ _ _ h => h) (by decide) (Or.inl ⟨by kernel_rfl, by (intro wz _; go_simp; try with_reducible rfl)⟩) (Ol.on hS5) ?_
              go_simp
              refine Ol.way_ready (rs := [12]) (by as_aux_lemma => kernel_rfl) (by simp) (Ol.Each.cons rfl (fun K hK => ?_) Ol.Each.nil)
              go_simp
              have hb6 := Ve.below_n1 z5 ZFo
              have hN := heap_alloc_last z5 ZFo
              obtain ⟨z6, hz6_⟩ : ∃ y, z5.alloc ZFo = y := ⟨_, rfl⟩
              rw [hz6_] at hb6 hN ⊢
              clear hz6_
              have hs6 := hb6.size
              have HU6 := Lib.hid (HU5.out.trans (hb6.mono HU5.out.size))
              have hR6 := (hb6.block _ (lt_heap hR5)).trans hR5
              have RL6 := Lib.hid (RL5.out.keep (fun b hb => hb6.block b (by omega)))
              have RA6 := Lib.hid (RA5.out.keep (fun b hb => hb6.block b (by omega)))
              have RB6 := Lib.hid (RB5.out.keep (fun b hb => hb6.block b (by omega)))
              obtain ⟨q, hq⟩ : ∃ q, q = z5.heap.size := ⟨_, rfl⟩
              rw [← hq] at hN ⊢
              have hQ6 := hN
              have hltq6 := lt_heap hN
              have hqa : q ≤ z5.heap.size := by omega
              have hqb : z5.heap.size ≤ q := by omega
              clear hN hq
              refine Ol.keep hK _ _ ((hb6.block _ (lt_heap hS5)).trans hS5) (fun hS6 => ?_)
              clear hK K
              refine Ol.way_ready (rs := [13]) (by as_aux_lemma => kernel_rfl) (by simp) (Ol.Each.cons rfl (fun K hK => ?_) Ol.Each.nil)
              refine step_store_row rfl 40 (.tmp 3) (.tmp 21) rfl _ (cqf W H a_l nl c_l a_s ns c_s a_f nf c_f) q 40 hQ6 rfl (by first | rfl | (go_simp; done) | (go_simp; rfl)) (by as_aux_lemma => kernel_rfl) rfl (by simp [Value.oneCell']) ?_
              have HC_ := Lib.hid (to_close (CQ := (cqf W H a_l nl c_l a_s ns c_s a_f nf c_f)) hQ6 hS6 hR6 HU6.out (by omega) (RL6.out.weak (fun b hb => by omega)) (RA6.out.weak (fun b hb => by omega)) (RB6.out.weak (fun b hb => by omega)))
              refine Ol.past hK (by as_aux_lemma => kernel_rfl) _ _ ?_
              clear hK K
              refine Ol.way_done (by as_aux_lemma => kernel_rfl) ?_ _
              go_wp2_with fail
              go_meet
              exact ⟨q, a_l, a_s, a_f, c_l, c_s, c_f, rfl, by omega, HC_.out⟩
            · go_simp
              have hb5 := Ve.below_n1 z4 ZFo
              have hN := heap_alloc_last z4 ZFo
              obtain ⟨z5, hz5_⟩ : ∃ y, z4.alloc ZFo = y := ⟨_, rfl⟩
              rw [hz5_] at hb5 hN ⊢
              clear hz5_
              have hs5 := hb5.size
              have HU5 := Lib.hid (HU4.out.trans (hb5.mono HU4.out.size))
              have hR5 := (hb5.block _ (lt_heap hR4)).trans hR4
              have B5 := Lib.hid (own_via (w' := z5) B4.out (fun r hr => by simp [Value.ownBlock] at hr; subst hr; exact hb5.block _ (by omega)))
              have RL5 := Lib.hid (RL4.out.keep (fun b hb => hb5.block b (by omega)))
              have RA5 := Lib.hid (RA4.out.keep (fun b hb => hb5.block b (by omega)))
              obtain ⟨q, hq⟩ : ∃ q, q = z4.heap.size := ⟨_, rfl⟩
              rw [← hq] at hN ⊢
              have hQ5 := hN
              have hltq5 := lt_heap hN
              have hqa : q ≤ z4.heap.size := by omega
              have hqb : z4.heap.size ≤ q := by omega
              clear hN hq
              refine Ol.keep hK _ _ ((hb5.block _ (lt_heap hS4)).trans hS4) (fun hS5 => ?_)
              clear hK K
              refine Ol.way_ready (rs := [10]) (by as_aux_lemma => kernel_rfl) (by simp) (Ol.Each.cons rfl (fun K hK => ?_) Ol.Each.nil)
              refine app_int ji jz0 jz1 jz2 B_ B5.out HU5.out (by have := HU5.out.size; omega) af cf F (HF_.out.on HU5.out) KF.out bf ⟨rfl, rfl⟩ ⟨rfl, rfl⟩ ?_
              intro a_f c_f z6 hgrow hs6 HU6 hRR
              have hR6 := (hgrow.block _ (lt_heap hR5) (by simp; omega)).trans hR5
              have RL6 := Lib.hid (RL5.out.keep (fun b hb => hgrow.block b (by omega) (by simp; omega)))
              have RA6 := Lib.hid (RA5.out.keep (fun b hb => hgrow.block b (by omega) (by simp; omega)))
              have hQ6 := (hgrow.block _ (lt_heap hQ5) (by simp; omega)).trans hQ5
              have RB6 := Lib.hid hRR
              clear hRR
              refine Ol.keep hK _ _ ((hgrow.block _ (lt_heap hS5) (by simp; omega)).trans hS5) (fun hS6 => ?_)
              clear hK K
              refine Ol.way_plain (i := 11) (v := ?_) rfl (by as_aux_lemma => kernel_rfl) (by as_aux_lemma => kernel_rfl) (by as_aux_lemma => kernel_rfl) (fun _ _ _ h => h) (by decide) (Or.inl ⟨by kernel_rfl, by (intro wz _; go_simp; try with_reducible rfl)⟩) (Ol.on hS6) ?_
              go_simp
              refine Ol.way_ready (rs := [13]) (by as_aux_lemma => kernel_rfl) (by simp) (Ol.Each.cons rfl (fun K hK => ?_) Ol.Each.nil)
              refine step_store_row rfl 40 (.tmp 3) (.tmp 21) rfl _ (cqf W H a_l nl c_l a_s ns c_s a_f nf c_f) q 40 hQ6 rfl (by first | rfl | (go_simp; done) | (go_simp; rfl)) (by as_aux_lemma => kernel_rfl) rfl (by simp [Value.oneCell']) ?_
              have HC_ := Lib.hid (to_close (CQ := (cqf W H a_l nl c_l a_s ns c_s a_f nf c_f)) hQ6 hS6 hR6 HU6.out (by omega) (RL6.out.weak (fun b hb => by omega)) (RA6.out.weak (fun b hb => by omega)) (RB6.out.weak (fun b hb => by omega)))
              refine Ol.past hK (by as_aux_lemma => kernel_rfl) _ _ ?_
              clear hK K
              refine Ol.way_done (by as_aux_lemma => kernel_rfl) ?_ _
              go_wp2_with fail
              go_meet
              exact ⟨q, a_l, a_s, a_f, c_l, c_s, c_f, rfl, by omega, HC_.out⟩
          · go_simp
            have hb4 := Ve.below_n1 z3 ZFo
            have hN := heap_alloc_last z3 ZFo
            obtain ⟨z4, hz4_⟩ : ∃ y, z3.alloc ZFo = y := ⟨_, rfl⟩
            rw [hz4_] at hb4 hN ⊢
            clear hz4_
            have hs4 := hb4.size
            have HU4 := Lib.hid (HU3.out.trans (hb4.mono HU3.out.size))
            have hR4 := (hb4.block _ (lt_heap hR3)).trans hR3
            have A4 := Lib.hid (own_via (w' := z4) A3.out (fun r hr => by simp [Value.ownBlock] at hr; subst hr; exact hb4.block _ (by omega)))
            have B4 := Lib.hid (own_via (w' := z4) B3.out (fun r hr => by simp [Value.ownBlock] at hr; subst hr; exact hb4.block _ (by omega)))
            have RL4 := Lib.hid (RL3.out.keep (fun b hb => hb4.block b (by omega)))
            obtain ⟨q, hq⟩ : ∃ q, q = z3.heap.size := ⟨_, rfl⟩
            rw [← hq] at hN ⊢
            have hQ4 := hN
            have hltq4 := lt_heap hN
            have hqa : q ≤ z3.heap.size := by omega
            have hqb : z3.heap.size ≤ q := by omega
            clear hN hq
            refine Ol.keep hK _ _ ((hb4.block _ (lt_heap hS3)).trans hS3) (fun hS4 => ?_)
            clear hK K
            refine Ol.way_ready (rs := [6]) (by as_aux_lemma => kernel_rfl) (by simp) (Ol.Each.cons rfl (fun K hK => ?_) Ol.Each.nil)
            refine app_int ji jz0 jz1 jz2 A_ A4.out HU4.out (by have := HU4.out.size; omega) ax cx S (HS_.out.on HU4.out) KS.out bs ⟨rfl, rfl⟩ ⟨rfl, rfl⟩ ?_
            intro a_s c_s z5 hgrow hs5 HU5 hRR
            have hR5 := (hgrow.block _ (lt_heap hR4) (by simp; omega)).trans hR4
            have B5 := Lib.hid (own_via (w' := z5) B4.out (fun r hr => by simp [Value.ownBlock] at hr; subst hr; exact hgrow.block _ (by omega) (by simp; omega)))
            have RL5 := Lib.hid (RL4.out.keep (fun b hb => hgrow.block b (by omega) (by simp; omega)))
            have hQ5 := (hgrow.block _ (lt_heap hQ4) (by simp; omega)).trans hQ4
            have RA5 := Lib.hid hRR
            clear hRR
            refine Ol.keep hK _ _ ((hgrow.block _ (lt_heap hS4) (by simp; omega)).trans hS4) (fun hS5 => ?_)
            clear hK K
            refine Ol.way_ready (rs := [10]) (by as_aux_lemma => kernel_rfl) (by simp) (Ol.Each.cons rfl (fun K hK => ?_) Ol.Each.nil)
            refine app_int ji jz0 jz1 jz2 B_ B5.out HU5.out (by have := HU5.out.size; omega) af cf F (HF_.out.on HU5.out) KF.out bf ⟨rfl, rfl⟩ ⟨rfl, rfl⟩ ?_
            intro a_f c_f z6 hgrow hs6 HU6 hRR
            have hR6 := (hgrow.block _ (lt_heap hR5) (by simp; omega)).trans hR5
            have RL6 := Lib.hid (RL5.out.keep (fun b hb => hgrow.block b (by omega) (by simp; omega)))
            have hQ6 := (hgrow.block _ (lt_heap hQ5) (by simp; omega)).trans hQ5
            have RA6 := Lib.hid (RA5.out.keep (fun b hb => hgrow.block b (by omega) (by simp; omega)))
            have RB6 := Lib.hid hRR
            clear hRR
            refine Ol.keep hK _ _ ((hgrow.block _ (lt_heap hS5) (by simp; omega)).trans hS5) (fun hS6 => ?_)
            clear hK K
            refine Ol.way_plain (i := 11) (v := ?_) rfl (by as_aux_lemma => kernel_rfl) (by as_aux_lemma => kernel_rfl) (by as_aux_lemma => kernel_rfl) (fun _ _ _ h => h) (by decide) (Or.inl ⟨by kernel_rfl, by (intro wz _; go_simp; try with_reducible rfl)⟩) (Ol.on hS6) ?_
            go_simp
            refine Ol.way_ready (rs := [13]) (by as_aux_lemma => kernel_rfl) (by simp) (Ol.Each.cons rfl (fun K hK => ?_) Ol.Each.nil)
            refine step_store_row rfl 40 (.tmp 3) (.tmp 21) rfl _ (cqf W H a_l nl c_l a_s ns c_s a_f nf c_f) q 40 hQ6 rfl (by first | rfl | (go_simp; done) | (go_simp; rfl)) (by as_aux_lemma => kernel_rfl) rfl (by simp [Value.oneCell']) ?_
            have HC_ := Lib.hid (to_close (CQ := (cqf W H a_l nl c_l a_s ns c_s a_f nf c_f)) hQ6 hS6 hR6 HU6.out (by omega) (RL6.out.weak (fun b hb => by omega)) (RA6.out.weak (fun b hb => by omega)) (RB6.out.weak (fun b hb => by omega)))
            refine Ol.past hK (by as_aux_lemma => kernel_rfl) _ _ ?_
            clear hK K
            refine Ol.way_done (by as_aux_lemma => kernel_rfl) ?_ _
            go_wp2_with fail
            go_meet
            exact ⟨q, a_l, a_s, a_f, c_l, c_s, c_f, rfl, by omega, HC_.out⟩
        · go_simp
          have hb3 := Ve.below_n1 z2 ZFo
          have hN := heap_alloc_last z2 ZFo
          obtain ⟨z3, hz3_⟩ : ∃ y, z2.alloc ZFo = y := ⟨_, rfl⟩
          rw [hz3_] at hb3 hN ⊢
          clear hz3_
          have hs3 := hb3.size
          have HU3 := Lib.hid (HU2.out.trans (hb3.mono HU2.out.size))
          have hR3 := (hb3.block _ (lt_heap hR2)).trans hR2
          have A3 := Lib.hid (own_via (w' := z3) A2.out (fun r hr => by simp [Value.ownBlock] at hr; subst hr; exact hb3.block _ (by omega)))
          have B3 := Lib.hid (own_via (w' := z3) B2.out (fun r hr => by simp [Value.ownBlock] at hr; subst hr; exact hb3.block _ (by omega)))
          obtain ⟨q, hq⟩ : ∃ q, q = z2.heap.size := ⟨_, rfl⟩
          rw [← hq] at hN ⊢
          have hQ3 := hN
          have hltq3 := lt_heap hN
          have hqa : q ≤ z2.heap.size := by omega
          have hqb : z2.heap.size ≤ q := by omega
          clear hN hq
          refine Ol.keep hK _ _ ((hb3.block _ (lt_heap hS2)).trans hS2) (fun hS3 => ?_)
          clear hK K
          refine Ol.way_ready (rs := [2]) (by as_aux_lemma => kernel_rfl) (by simp) (Ol.Each.cons rfl (fun K hK => ?_) Ol.Each.nil)
          go_simp
          go_wp2_with (go_at_call 28; refine (tosheet_any W H al nl cl L _ (HL_.out.on HU3.out) bl).mono ?_; rintro e z4 ⟨⟨a_l, c_l, rfl, hla⟩, hb4⟩)
          have hs4 := hb4.size
          have HU4 := Lib.hid (HU3.out.trans (hb4.mono HU3.out.size))
          have hR4 := (hb4.block _ (lt_heap hR3)).trans hR3
          have A4 := Lib.hid (own_via (w' := z4) A3.out (fun r hr => by simp [Value.ownBlock] at hr; subst hr; exact hb4.block _ (by omega)))
          have B4 := Lib.hid (own_via (w' := z4) B3.out (fun r hr => by simp [Value.ownBlock] at hr; subst hr; exact hb4.block _ (by omega)))
          have hQ4 := (hb4.block _ (lt_heap hQ3)).trans hQ3
          have RL4 := Lib.hid (RwP.weak (P' := fun b => z3.heap.size ≤ b ∧ b < z4.heap.size) (hla.lt (by decide)) (fun b hb => hb))
          clear hla
          refine Ol.keep hK _ _ ((hb4.block _ (lt_heap hS3)).trans hS3) (fun hS4 => ?_)
          clear hK K
          refine Ol.way_ready (rs := [6]) (by as_aux_lemma => kernel_rfl) (by simp) (Ol.Each.cons rfl (fun K hK => ?_) Ol.Each.nil)
          refine app_int ji jz0 jz1 jz2 A_ A4.out HU4.out (by have := HU4.out.size; omega) ax cx S (HS_.out.on HU4.out) KS.out bs ⟨rfl, rfl⟩ ⟨rfl, rfl⟩ ?_
          intro a_s c_s z5 hgrow hs5 HU5 hRR
          have hR5 := (hgrow.block _ (lt_heap hR4) (by simp; omega)).trans hR4
          have B5 := Lib.hid (own_via (w' := z5) B4.out (fun r hr => by simp [Value.ownBlock] at hr; subst hr; exact hgrow.block _ (by omega) (by simp; omega)))
          have hQ5 := (hgrow.block _ (lt_heap hQ4) (by simp; omega)).trans hQ4
          have RL5 := Lib.hid (RL4.out.keep (fun b hb => hgrow.block b (by omega) (by simp; omega)))
          have RA5 := Lib.hid hRR
          clear hRR
          refine Ol.keep hK _ _ ((hgrow.block _ (lt_heap hS4) (by simp; omega)).trans hS4) (fun hS5 => ?_)
          clear hK K
          refine Ol.way_ready (rs := [10]) (by as_aux_lemma => kernel_rfl) (by simp) (Ol.Each.cons rfl (fun K hK => ?_) Ol.Each.nil)
          refine app_int ji jz0 jz1 jz2 B_ B5.out HU5.out (by have := HU5.out.size; omega) af cf F (HF_.out.on HU5.out) KF.out bf ⟨rfl, rfl⟩ ⟨rfl, rfl⟩ ?_
          intro a_f c_f z6 hgrow hs6 HU6 hRR
          have hR6 := (hgrow.block _ (lt_heap hR5) (by simp; omega)).trans hR5
          have hQ6 := (hgrow.block _ (lt_heap hQ5) (by simp; omega)).trans hQ5
          have RL6 := Lib.hid (RL5.out.keep (fun b hb => hgrow.block b (by omega) (by simp; omega)))
          have RA6 := Lib.hid (RA5.out.keep (fun b hb => hgrow.block b (by omega) (by simp; omega)))
          have RB6 := Lib.hid hRR
          clear hRR
          refine Ol.keep hK _ _ ((hgrow.block _ (lt_heap hS5) (by simp; omega)).trans hS5) (fun hS6 => ?_)
          clear hK K
          refine Ol.way_plain (i := 11) (v := ?_) rfl (by as_aux_lemma => kernel_rfl) (by as_aux_lemma => kernel_rfl) (by as_aux_lemma => kernel_rfl) (fun _ _ _ h => h) (by decide) (Or.inl ⟨by kernel_rfl, by (intro wz _; go_simp; try with_reducible rfl)⟩) (Ol.on hS6) ?_
          go_simp
          refine Ol.way_ready (rs := [13]) (by as_aux_lemma => kernel_rfl) (by simp) (Ol.Each.cons rfl (fun K hK => ?_) Ol.Each.nil)
          refine step_store_row rfl 40 (.tmp 3) (.tmp 21) rfl _ (cqf W H a_l nl c_l a_s ns c_s a_f nf c_f) q 40 hQ6 rfl (by first | rfl | (go_simp; done) | (go_simp; rfl)) (by as_aux_lemma => kernel_rfl) rfl (by simp [Value.oneCell']) ?_
          have HC_ := Lib.hid (to_close (CQ := (cqf W H a_l nl c_l a_s ns c_s a_f nf c_f)) hQ6 hS6 hR6 HU6.out (by omega) (RL6.out.weak (fun b hb => by omega)) (RA6.out.weak (fun b hb => by omega)) (RB6.out.weak (fun b hb => by omega)))
          refine Ol.past hK (by as_aux_lemma => kernel_rfl) _ _ ?_
          clear hK K
          refine Ol.way_done (by as_aux_lemma => kernel_rfl) ?_ _
          go_wp2_with fail
          go_meet
          exact ⟨q, a_l, a_s, a_f, c_l, c_s, c_f, rfl, by omega, HC_.out⟩
      · go_simp
        have hb2 := Ve.below_n1 z1 ZFo
        have hN := heap_alloc_last z1 ZFo
        obtain ⟨z2, hz2_⟩ : ∃ y, z1.alloc ZFo = y := ⟨_, rfl⟩
        rw [hz2_] at hb2 hN ⊢
        clear hz2_
        have hs2 := hb2.size
        have HU2 := Lib.hid (HU1.out.trans (hb2.mono HU1.out.size))
        have hR2 := (hb2.block _ (lt_heap hR1)).trans hR1
        have A2 := Lib.hid (own_via (w' := z2) A1.out (fun r hr => by simp [Value.ownBlock] at hr; subst hr; exact hb2.block _ (by omega)))
        obtain ⟨q, hq⟩ : ∃ q, q = z1.heap.size := ⟨_, rfl⟩
        rw [← hq] at hN ⊢
        have hQ2 := hN
        have hltq2 := lt_heap hN
        have hqa : q ≤ z1.heap.size := by omega
        have hqb : z1.heap.size ≤ q := by omega
        clear hN hq
        refine Ol.keep hK _ _ ((hb2.block _ (lt_heap hS1)).trans hS1) (fun hS2 => ?_)
        clear hK K
        refine Ol.way_ready (rs := [2, 7]) (by as_aux_lemma => kernel_rfl) (by simp) (Ol.Each.cons rfl (fun K hK => ?_) (Ol.Each.cons rfl (fun K hK => ?_) Ol.Each.nil))
        · go_simp
          go_wp2_with (go_at_call 28; refine (tosheet_any W H al nl cl L _ (HL_.out.on HU2.out) bl).mono ?_; rintro e z3 ⟨⟨a_l, c_l, rfl, hla⟩, hb3⟩)
          have hs3 := hb3.size
          have HU3 := Lib.hid (HU2.out.trans (hb3.mono HU2.out.size))
          have hR3 := (hb3.block _ (lt_heap hR2)).trans hR2
          have A3 := Lib.hid (own_via (w' := z3) A2.out (fun r hr => by simp [Value.ownBlock] at hr; subst hr; exact hb3.block _ (by omega)))
          have hQ3 := (hb3.block _ (lt_heap hQ2)).trans hQ2
          have RL3 := Lib.hid (RwP.weak (P' := fun b => z2.heap.size ≤ b ∧ b < z3.heap.size) (hla.lt (by decide)) (fun b hb => hb))
          clear hla
          refine Ol.keep hK _ _ ((hb3.block _ (lt_heap hS2)).trans hS2) (fun hS3 => ?_)
          clear hK K
          refine Ol.way_ready (rs := [6, 7]) (by as_aux_lemma => kernel_rfl) (by simp) (Ol.Each.cons rfl (fun K hK => ?_) (Ol.Each.cons rfl (fun K hK => ?_) Ol.Each.nil))
          · refine app_int ji jz0 jz1 jz2 A_ A3.out HU3.out (by have := HU3.out.size; omega) ax cx S (HS_.out.on HU3.out) KS.out bs ⟨rfl, rfl⟩ ⟨rfl, rfl⟩ ?_
            intro a_s c_s z4 hgrow hs4 HU4 hRR
            have hR4 := (hgrow.block _ (lt_heap hR3) (by simp; omega)).trans hR3
            have hQ4 := (hgrow.block _ (lt_heap hQ3) (by simp; omega)).trans hQ3
            have RL4 := Lib.hid (RL3.out.keep (fun b hb => hgrow.block b (by omega) (by simp; omega)))
            have RA4 := Lib.hid hRR
            clear hRR
            refine Ol.keep hK _ _ ((hgrow.block _ (lt_heap hS3) (by simp; omega)).trans hS3) (fun hS4 => ?_)
            clear hK K
            refine Ol.way_ready (rs := [7]) (by as_aux_lemma => kernel_rfl) (by simp) (Ol.Each.cons rfl (fun K hK => ?_) Ol.Each.nil)
            go_simp
            have hb5 := Ve.below_n1 z4 (.cells #[] 3)
            have hW5 := World.ownsRow_lit (e := 3) (size := 1) z4 #[] 0 (Nat.le_refl _) (by unfold maxLen; omega) rfl
            obtain ⟨z5, hz5_⟩ : ∃ y, z4.alloc (.cells #[] 3) = y := ⟨_, rfl⟩
            rw [hz5_] at hb5 hW5 ⊢
            clear hz5_
            have hs5 := hb5.size
            have HU5 := Lib.hid (HU4.out.trans (hb5.mono HU4.out.size))
            have hR5 := (hb5.block _ (lt_heap hR4)).trans hR4
            have hQ5 := (hb5.block _ (lt_heap hQ4)).trans hQ4
            have RL5 := Lib.hid (RL4.out.keep (fun b hb => hb5.block b (by omega)))
            have RA5 := Lib.hid (RA4.out.keep (fun b hb => hb5.block b (by omega)))
            obtain ⟨B_, hB_⟩ : ∃ x, x = z4.heap.size := ⟨_, rfl⟩
            rw [← hB_] at hW5 ⊢
            have B5 := Lib.hid hW5
            have hltB5 := (hW5.lt B_ rfl).2
            have haB : B_ ≤ z4.heap.size := by omega
            have hb_B : z4.heap.size ≤ B_ := by omega
            clear hW5 hB_
            refine Ol.keep hK _ _ ((hb5.block _ (lt_heap hS4)).trans hS4) (fun hS5 => ?_)
            clear hK K
            refine Ol.way_ready (rs := [10]) (by as_aux_lemma => kernel_rfl) (by simp) (Ol.Each.cons rfl (fun K hK => ?_) Ol.Each.nil)
            refine app_int ji jz0 jz1 jz2 B_ B5.out HU5.out (by have := HU5.out.size; omega) af cf F (HF_.out.on HU5.out) KF.out bf ⟨rfl, rfl⟩ ⟨rfl, rfl⟩ ?_
            intro a_f c_f z6 hgrow hs6 HU6 hRR
            have hR6 := (hgrow.block _ (lt_heap hR5) (by simp; omega)).trans hR5
            have hQ6 := (hgrow.block _ (lt_heap hQ5) (by simp; omega)).trans hQ5
            have RL6 := Lib.hid (RL5.out.keep (fun b hb => hgrow.block b (by omega) (by simp; omega)))
            have RA6 := Lib.hid (RA5.out.keep (fun b hb => hgrow.block b (by omega) (by simp; omega)))
            have RB6 := Lib.hid hRR
            clear hRR
            refine Ol.keep hK _ _ ((hgrow.block _ (lt_heap hS5) (by simp; omega)).trans hS5) (fun hS6 => ?_)
            clear hK K
            refine Ol.way_plain (i := 11) (v := ?_) rfl (by as_aux_lemma => kernel_rfl) (by as_aux_lemma => kernel_rfl) (by as_aux_lemma => kernel_rfl) (fun _ _ _ h => h) (by decide) (Or.inl ⟨by kernel_rfl, by (intro wz _; go_simp; try with_reducible rfl)⟩) (Ol.on hS6) ?_
            go_simp
            refine Ol.way_ready (rs := [13]) (by as_aux_lemma => kernel_rfl) (by simp) (Ol.Each.cons rfl (fun K hK => ?_) Ol.Each.nil)
            refine step_store_row rfl 40 (.tmp 3) (.tmp 21) rfl _ (cqf W H a_l nl c_l a_s ns c_s a_f nf c_f) q 40 hQ6 rfl (by first | rfl | (go_simp; done) | (go_simp; rfl)) (by as_aux_lemma => kernel_rfl) rfl (by simp [Value.oneCell']) ?_
            have HC_ := Lib.hid (to_close (CQ := (cqf W H a_l nl c_l a_s ns c_s a_f nf c_f)) hQ6 hS6 hR6 HU6.out (by omega) (RL6.out.weak (fun b hb => by omega)) (RA6.out.weak (fun b hb => by omega)) (RB6.out.weak (fun b hb => by omega)))
            refine Ol.past hK (by as_aux_lemma => kernel_rfl) _ _ ?_
            clear hK K
            refine Ol.way_done (by as_aux_lemma => kernel_rfl) ?_ _
            go_wp2_with fail
            go_meet
            exact ⟨q, a_l, a_s, a_f, c_l, c_s, c_f, rfl, by omega, HC_.out⟩
          · go_simp
            have hb4 := Ve.below_n1 z3 (.cells #[] 3)
            have hW4 := World.ownsRow_lit (e := 3) (size := 1) z3 #[] 0 (Nat.le_refl _) (by unfold maxLen; omega) rfl
            obtain ⟨z4, hz4_⟩ : ∃ y, z3.alloc (.cells #[] 3) = y := ⟨_, rfl⟩
            rw [hz4_] at hb4 hW4 ⊢
            clear hz4_
            have hs4 := hb4.size
            have HU4 := Lib.hid (HU3.out.trans (hb4.mono HU3.out.size))
            have hR4 := (hb4.block _ (lt_heap hR3)).trans hR3
            have A4 := Lib.hid (own_via (w' := z4) A3.out (fun r hr => by simp [Value.ownBlock] at hr; subst hr; exact hb4.block _ (by omega)))
            have hQ4 := (hb4.block _ (lt_heap hQ3)).trans hQ3
            have RL4 := Lib.hid (RL3.out.keep (fun b hb => hb4.block b (by omega)))
            obtain ⟨B_, hB_⟩ : ∃ x, x = z3.heap.size := ⟨_, rfl⟩
            rw [← hB_] at hW4 ⊢
            have B4 := Lib.hid hW4
            have hltB4 := (hW4.lt B_ rfl).2
            have haB : B_ ≤ z3.heap.size := by omega
            have hb_B : z3.heap.size ≤ B_ := by omega
            clear hW4 hB_
            refine Ol.keep hK _ _ ((hb4.block _ (lt_heap hS3)).trans hS3) (fun hS4 => ?_)
            clear hK K
            refine Ol.way_ready (rs := [6]) (by as_aux_lemma => kernel_rfl) (by simp) (Ol.Each.cons rfl (fun K hK => ?_) Ol.Each.nil)
            refine app_int ji jz0 jz1 jz2 A_ A4.out HU4.out (by have := HU4.out.size; omega) ax cx S (HS_.out.on HU4.out) KS.out bs ⟨rfl, rfl⟩ ⟨rfl, rfl⟩ ?_
            intro a_s c_s z5 hgrow hs5 HU5 hRR
            have hR5 := (hgrow.block _ (lt_heap hR4) (by simp; omega)).trans hR4
            have hQ5 := (hgrow.block _ (lt_heap hQ4) (by simp; omega)).trans hQ4
            have RL5 := Lib.hid (RL4.out.keep (fun b hb => hgrow.block b (by omega) (by simp; omega)))
            have B5 := Lib.hid (own_via (w' := z5) B4.out (fun r hr => by simp [Value.ownBlock] at hr; subst hr; exact hgrow.block _ (by omega) (by simp; omega)))
            have RA5 := Lib.hid hRR
            clear hRR
            refine Ol.keep hK _ _ ((hgrow.block _ (lt_heap hS4) (by simp; omega)).trans hS4) (fun hS5 => ?_)
            clear hK K
            refine Ol.way_ready (rs := [10]) (by as_aux_lemma => kernel_rfl) (by simp) (Ol.Each.cons rfl (fun K hK => ?_) Ol.Each.nil)
            refine app_int ji jz0 jz1 jz2 B_ B5.out HU5.out (by have := HU5.out.size; omega) af cf F (HF_.out.on HU5.out) KF.out bf ⟨rfl, rfl⟩ ⟨rfl, rfl⟩ ?_
            intro a_f c_f z6 hgrow hs6 HU6 hRR
            have hR6 := (hgrow.block _ (lt_heap hR5) (by simp; omega)).trans hR5
            have hQ6 := (hgrow.block _ (lt_heap hQ5) (by simp; omega)).trans hQ5
            have RL6 := Lib.hid (RL5.out.keep (fun b hb => hgrow.block b (by omega) (by simp; omega)))
            have RA6 := Lib.hid (RA5.out.keep (fun b hb => hgrow.block b (by omega) (by simp; omega)))
            have RB6 := Lib.hid hRR
            clear hRR
            refine Ol.keep hK _ _ ((hgrow.block _ (lt_heap hS5) (by simp; omega)).trans hS5) (fun hS6 => ?_)
            clear hK K
            refine Ol.way_plain (i := 11) (v := ?_) rfl (by as_aux_lemma => kernel_rfl) (by as_aux_lemma => kernel_rfl) (by as_aux_lemma => kernel_rfl) (fun _ _ _ h => h) (by decide) (Or.inl ⟨by kernel_rfl, by (intro wz _; go_simp; try with_reducible rfl)⟩) (Ol.on hS6) ?_
            go_simp
            refine Ol.way_ready (rs := [13]) (by as_aux_lemma => kernel_rfl) (by simp) (Ol.Each.cons rfl (fun K hK => ?_) Ol.Each.nil)
            refine step_store_row rfl 40 (.tmp 3) (.tmp 21) rfl _ (cqf W H a_l nl c_l a_s ns c_s a_f nf c_f) q 40 hQ6 rfl (by first | rfl | (go_simp; done) | (go_simp; rfl)) (by as_aux_lemma => kernel_rfl) rfl (by simp [Value.oneCell']) ?_
            have HC_ := Lib.hid (to_close (CQ := (cqf W H a_l nl c_l a_s ns c_s a_f nf c_f)) hQ6 hS6 hR6 HU6.out (by omega) (RL6.out.weak (fun b hb => by omega)) (RA6.out.weak (fun b hb => by omega)) (RB6.out.weak (fun b hb => by omega)))
            refine Ol.past hK (by as_aux_lemma => kernel_rfl) _ _ ?_
            clear hK K
            refine Ol.way_done (by as_aux_lemma => kernel_rfl) ?_ _
            go_wp2_with fail
            go_meet
            exact ⟨q, a_l, a_s, a_f, c_l, c_s, c_f, rfl, by omega, HC_.out⟩
        · go_simp
          have hb3 := Ve.below_n1 z2 (.cells #[] 3)
          have hW3 := World.ownsRow_lit (e := 3) (size := 1) z2 #[] 0 (Nat.le_refl _) (by unfold maxLen; omega) rfl
          obtain ⟨z3, hz3_⟩ : ∃ y, z2.alloc (.cells #[] 3) = y := ⟨_, rfl⟩
          rw [hz3_] at hb3 hW3 ⊢
          clear hz3_
          have hs3 := hb3.size
          have HU3 := Lib.hid (HU2.out.trans (hb3.mono HU2.out.size))
          have hR3 := (hb3.block _ (lt_heap hR2)).trans hR2
          have A3 := Lib.hid (own_via (w' := z3) A2.out (fun r hr => by simp [Value.ownBlock] at hr; subst hr; exact hb3.block _ (by omega)))
          have hQ3 := (hb3.block _ (lt_heap hQ2)).trans hQ2
          obtain ⟨B_, hB_⟩ : ∃ x, x = z2.heap.size := ⟨_, rfl⟩
          rw [← hB_] at hW3 ⊢
          have B3 := Lib.hid hW3
          have hltB3 := (hW3.lt B_ rfl).2
          have haB : B_ ≤ z2.heap.size := by omega
          have hb_B : z2.heap.size ≤ B_ := by omega
          clear hW3 hB_
          refine Ol.keep hK _ _ ((hb3.block _ (lt_heap hS2)).trans hS2) (fun hS3 => ?_)
          clear hK K
          refine Ol.way_ready (rs := [2]) (by as_aux_lemma => kernel_rfl) (by simp) (Ol.Each.cons rfl (fun K hK => ?_) Ol.Each.nil)
          go_simp
          go_wp2_with (go_at_call 28; refine (tosheet_any W H al nl cl L _ (HL_.out.on HU3.out) bl).mono ?_; rintro e z4 ⟨⟨a_l, c_l, rfl, hla⟩, hb4⟩)
          have hs4 := hb4.size
          have HU4 := Lib.hid (HU3.out.trans (hb4.mono HU3.out.size))
          have hR4 := (hb4.block _ (lt_heap hR3)).trans hR3
          have A4 := Lib.hid (own_via (w' := z4) A3.out (fun r hr => by simp [Value.ownBlock] at hr; subst hr; exact hb4.block _ (by omega)))
          have hQ4 := (hb4.block _ (lt_heap hQ3)).trans hQ3
          have B4 := Lib.hid (own_via (w' := z4) B3.out (fun r hr => by simp [Value.ownBlock] at hr; subst hr; exact hb4.block _ (by omega)))
          have RL4 := Lib.hid (RwP.weak (P' := fun b => z3.heap.size ≤ b ∧ b < z4.heap.size) (hla.lt (by decide)) (fun b hb => hb))
          clear hla
          refine Ol.keep hK _ _ ((hb4.block _ (lt_heap hS3)).trans hS3) (fun hS4 => ?_)
          clear hK K
          refine Ol.way_ready (rs := [6]) (by as_aux_lemma => kernel_rfl) (by simp) (Ol.Each.cons rfl (fun K hK => ?_) Ol.Each.nil)
          refine app_int ji jz0 jz1 jz2 A_ A4.out HU4.out (by have := HU4.out.size; omega) ax cx S (HS_.out.on HU4.out) KS.out bs ⟨rfl, rfl⟩ ⟨rfl, rfl⟩ ?_
          intro a_s c_s z5 hgrow hs5 HU5 hRR
          have hR5 := (hgrow.block _ (lt_heap hR4) (by simp; omega)).trans hR4
          have hQ5 := (hgrow.block _ (lt_heap hQ4) (by simp; omega)).trans hQ4
          have B5 := Lib.hid (own_via (w' := z5) B4.out (fun r hr => by simp [Value.ownBlock] at hr; subst hr; exact hgrow.block _ (by omega) (by simp; omega)))
          have RL5 := Lib.hid (RL4.out.keep (fun b hb => hgrow.block b (by omega) (by simp; omega)))
          have RA5 := Lib.hid hRR
          clear hRR
          refine Ol.keep hK _ _ ((hgrow.block _ (lt_heap hS4) (by simp; omega)).trans hS4) (fun hS5 => ?_)
          clear hK K
          refine Ol.way_ready (rs := [10]) (by as_aux_lemma => kernel_rfl) (by simp) (Ol.Each.cons rfl (fun K hK => ?_) Ol.Each.nil)
          refine app_int ji jz0 jz1 jz2 B_ B5.out HU5.out (by have := HU5.out.size; omega) af cf F (HF_.out.on HU5.out) KF.out bf ⟨rfl, rfl⟩ ⟨rfl, rfl⟩ ?_
          intro a_f c_f z6 hgrow hs6 HU6 hRR
          have hR6 := (hgrow.block _ (lt_heap hR5) (by simp; omega)).trans hR5
          have hQ6 := (hgrow.block _ (lt_heap hQ5) (by simp; omega)).trans hQ5
          have RL6 := Lib.hid (RL5.out.keep (fun b hb => hgrow.block b (by omega) (by simp; omega)))
          have RA6 := Lib.hid (RA5.out.keep (fun b hb => hgrow.block b (by omega) (by simp; omega)))
          have RB6 := Lib.hid hRR
          clear hRR
          refine Ol.keep hK _ _ ((hgrow.block _ (lt_heap hS5) (by simp; omega)).trans hS5) (fun hS6 => ?_)
          clear hK K
          refine Ol.way_plain (i := 11) (v := ?_) rfl (by as_aux_lemma => kernel_rfl) (by as_aux_lemma => kernel_rfl) (by as_aux_lemma => kernel_rfl) (fun _ _ _ h => h) (by decide) (Or.inl ⟨by kernel_rfl, by (intro wz _; go_simp; try with_reducible rfl)⟩) (Ol.on hS6) ?_
          go_simp
          refine Ol.way_ready (rs := [13]) (by as_aux_lemma => kernel_rfl) (by simp) (Ol.Each.cons rfl (fun K hK => ?_) Ol.Each.nil)
          refine step_store_row rfl 40 (.tmp 3) (.tmp 21) rfl _ (cqf W H a_l nl c_l a_s ns c_s a_f nf c_f) q 40 hQ6 rfl (by first | rfl | (go_simp; done) | (go_simp; rfl)) (by as_aux_lemma => kernel_rfl) rfl (by simp [Value.oneCell']) ?_
          have HC_ := Lib.hid (to_close (CQ := (cqf W H a_l nl c_l a_s ns c_s a_f nf c_f)) hQ6 hS6 hR6 HU6.out (by omega) (RL6.out.weak (fun b hb => by omega)) (RA6.out.weak (fun b hb => by omega)) (RB6.out.weak (fun b hb => by omega)))
          refine Ol.past hK (by as_aux_lemma => kernel_rfl) _ _ ?_
          clear hK K
          refine Ol.way_done (by as_aux_lemma => kernel_rfl) ?_ _
          go_wp2_with fail
          go_meet
          exact ⟨q, a_l, a_s, a_f, c_l, c_s, c_f, rfl, by omega, HC_.out⟩
    · go_simp
      have hb1 := Ve.below_n1 z0 (.cells #[] 3)
      have hW1 := World.ownsRow_lit (e := 3) (size := 1) z0 #[] 0 (Nat.le_refl _) (by unfold maxLen; omega) rfl
      obtain ⟨z1, hz1_⟩ : ∃ y, z0.alloc (.cells #[] 3) = y := ⟨_, rfl⟩
      rw [hz1_] at hb1 hW1 ⊢
      clear hz1_
      have hs1 := hb1.size
      have HU1 := Lib.hid (HU0.out.trans (hb1.mono HU0.out.size))
      have hR1 := (hb1.block _ (lt_heap hR0)).trans hR0
      obtain ⟨B_, hB_⟩ : ∃ x, x = z0.heap.size := ⟨_, rfl⟩
      rw [← hB_] at hW1 ⊢
      have B1 := Lib.hid hW1
      have hltB1 := (hW1.lt B_ rfl).2
      have haB : B_ ≤ z0.heap.size := by omega
      have hb_B : z0.heap.size ≤ B_ := by omega
      clear hW1 hB_
      refine Ol.keep hK _ _ ((hb1.block _ (lt_heap hS0)).trans hS0) (fun hS1 => ?_)
      clear hK K
      refine Ol.way_ready (rs := [2, 3, 12]) (by as_aux_lemma => kernel_rfl) (by simp) (Ol.Each.cons rfl (fun K hK => ?_) (Ol.Each.cons rfl (fun K hK => ?_) (Ol.Each.cons rfl (fun K hK => ?_) Ol.Each.nil)))
      · go_simp
        go_wp2_with (go_at_call 28; refine (tosheet_any W H al nl cl L _ (HL_.out.on HU1.out) bl).mono ?_; rintro e z2 ⟨⟨a_l, c_l, rfl, hla⟩, hb2⟩)
        have hs2 := hb2.size
        have HU2 := Lib.hid (HU1.out.trans (hb2.mono HU1.out.size))
        have hR2 := (hb2.block _ (lt_heap hR1)).trans hR1
        have B2 := Lib.hid (own_via (w' := z2) B1.out (fun r hr => by simp [Value.ownBlock] at hr; subst hr; exact hb2.block _ (by omega)))
        have RL2 := Lib.hid (RwP.weak (P' := fun b => z1.heap.size ≤ b ∧ b < z2.heap.size) (hla.lt (by decide)) (fun b hb => hb))
        clear hla
        refine Ol.keep hK _ _ ((hb2.block _ (lt_heap hS1)).trans hS1) (fun hS2 => ?_)
        clear hK K
        refine Ol.way_ready (rs := [3, 12]) (by as_aux_lemma => kernel_rfl) (by simp) (Ol.Each.cons rfl (fun K hK => ?_) (Ol.Each.cons rfl (fun K hK => ?_) Ol.Each.nil))
        · go_simp
          have hb3 := Ve.below_n1 z2 (.cells #[] 3)
          have hW3 := World.ownsRow_lit (e := 3) (size := 1) z2 #[] 0 (Nat.le_refl _) (by unfold maxLen; omega) rfl
          obtain ⟨z3, hz3_⟩ : ∃ y, z2.alloc (.cells #[] 3) = y := ⟨_, rfl⟩
          rw [hz3_] at hb3 hW3 ⊢
          clear hz3_
          have hs3 := hb3.size
          have HU3 := Lib.hid (HU2.out.trans (hb3.mono HU2.out.size))
          have hR3 := (hb3.block _ (lt_heap hR2)).trans hR2
          have B3 := Lib.hid (own_via (w' := z3) B2.out (fun r hr => by simp [Value.ownBlock] at hr; subst hr; exact hb3.block _ (by omega)))
          have RL3 := Lib.hid (RL2.out.keep (fun b hb => hb3.block b (by omega)))
          obtain ⟨A_, hA_⟩ : ∃ x, x = z2.heap.size := ⟨_, rfl⟩
          rw [← hA_] at hW3 ⊢
          have A3 := Lib.hid hW3
          have hltA3 := (hW3.lt A_ rfl).2
          have haA : A_ ≤ z2.heap.size := by omega
          have hb_A : z2.heap.size ≤ A_ := by omega
          clear hW3 hA_
          refine Ol.keep hK _ _ ((hb3.block _ (lt_heap hS2)).trans hS2) (fun hS3 => ?_)
          clear hK K
          refine Ol.way_ready (rs := [6, 12]) (by as_aux_lemma => kernel_rfl) (by simp) (Ol.Each.cons rfl (fun K hK => ?_) (Ol.Each.cons rfl (fun K hK => ?_) Ol.Each.nil))
          · refine app_int ji jz0 jz1 jz2 A_ A3.out HU3.out (by have := HU3.out.size; omega) ax cx S (HS_.out.on HU3.out) KS.out bs ⟨rfl, rfl⟩ ⟨rfl, rfl⟩ ?_
            intro a_s c_s z4 hgrow hs4 HU4 hRR
            have hR4 := (hgrow.block _ (lt_heap hR3) (by simp; omega)).trans hR3
            have B4 := Lib.hid (own_via (w' := z4) B3.out (fun r hr => by simp [Value.ownBlock] at hr; subst hr; exact hgrow.block _ (by omega) (by simp; omega)))
            have RL4 := Lib.hid (RL3.out.keep (fun b hb => hgrow.block b (by omega) (by simp; omega)))
            have RA4 := Lib.hid hRR
            clear hRR
            refine Ol.keep hK _ _ ((hgrow.block _ (lt_heap hS3) (by simp; omega)).trans hS3) (fun hS4 => ?_)
            clear hK K
            refine Ol.way_ready (rs := [10, 12]) (by as_aux_lemma => kernel_rfl) (by simp) (Ol.Each.cons rfl (fun K hK => ?_) (Ol.Each.cons rfl (fun K hK => ?_) Ol.Each.nil))
            · refine app_int ji jz0 jz1 jz2 B_ B4.out HU4.out (by have := HU4.out.size; omega) af cf F (HF_.out.on HU4.out) KF.out bf ⟨rfl, rfl⟩ ⟨rfl, rfl⟩ ?_
              intro a_f c_f z5 hgrow hs5 HU5 hRR
              have hR5 := (hgrow.block _ (lt_heap hR4) (by simp; omega)).trans hR4
              have RL5 := Lib.hid (RL4.out.keep (fun b hb => hgrow.block b (by omega) (by simp; omega)))
              have RA5 := Lib.hid (RA4.out.keep (fun b hb => hgrow.block b (by omega) (by simp; omega)))
              have RB5 := Lib.hid hRR
              clear hRR
              refine Ol.keep hK _ _ ((hgrow.block _ (lt_heap hS4) (by simp; omega)).trans hS4) (fun hS5 => ?_)
              clear hK K
              refine Ol.way_plain (i := 11) (v := ?_) rfl (by as_aux_lemma => kernel_rfl) (by as_aux_lemma => kernel_rfl) (by as_aux_lemma => kernel_rfl) (fun _ _ _ h => h) (by decide) (Or.inl ⟨by kernel_rfl, by (intro wz _; go_simp; try with_reducible rfl)⟩) (Ol.on hS5) ?_
              go_simp
              refine Ol.way_ready (rs := [12]) (by as_aux_lemma => kernel_rfl) (by simp) (Ol.Each.cons rfl (fun K hK => ?_) Ol.Each.nil)
              go_simp
              have hb6 := Ve.below_n1 z5 ZFo
              have hN := heap_alloc_last z5 ZFo
              obtain ⟨z6, hz6_⟩ : ∃ y, z5.alloc ZFo = y := ⟨_, rfl⟩
              rw [hz6_] at hb6 hN ⊢
              clear hz6_
              have hs6 := hb6.size
              have HU6 := Lib.hid (HU5.out.trans (hb6.mono HU5.out.size))
              have hR6 := (hb6.block _ (lt_heap hR5)).trans hR5
              have RL6 := Lib.hid (RL5.out.keep (fun b hb => hb6.block b (by omega)))
              have RA6 := Lib.hid (RA5.out.keep (fun b hb => hb6.block b (by omega)))
              have RB6 := Lib.hid (RB5.out.keep (fun b hb => hb6.block b (by omega)))
              obtain ⟨q, hq⟩ : ∃ q, q = z5.heap.size := ⟨_, rfl⟩
              rw [← hq] at hN ⊢
              have hQ6 := hN
              have hltq6 := lt_heap hN
              have hqa : q ≤ z5.heap.size := by omega
              have hqb : z5.heap.size ≤ q := by omega
              clear hN hq
              refine Ol.keep hK _ _ ((hb6.block _ (lt_heap hS5)).trans hS5) (fun hS6 => ?_)
              clear hK K
              refine Ol.way_ready (rs := [13]) (by as_aux_lemma => kernel_rfl) (by simp) (Ol.Each.cons rfl (fun K hK => ?_) Ol.Each.nil)
              refine step_store_row rfl 40 (.tmp 3) (.tmp 21) rfl _ (cqf W H a_l nl c_l a_s ns c_s a_f nf c_f) q 40 hQ6 rfl (by first | rfl | (go_simp; done) | (go_simp; rfl)) (by as_aux_lemma => kernel_rfl) rfl (by simp [Value.oneCell']) ?_
              have HC_ := Lib.hid (to_close (CQ := (cqf W H a_l nl c_l a_s ns c_s a_f nf c_f)) hQ6 hS6 hR6 HU6.out (by omega) (RL6.out.weak (fun b hb => by omega)) (RA6.out.weak (fun b hb => by omega)) (RB6.out.weak (fun b hb => by omega)))
              refine Ol.past hK (by as_aux_lemma => kernel_rfl) _ _ ?_
              clear hK K
              refine Ol.way_done (by as_aux_lemma => kernel_rfl) ?_ _
              go_wp2_with fail
              go_meet
              exact ⟨q, a_l, a_s, a_f, c_l, c_s, c_f, rfl, by omega, HC_.out⟩
            · go_simp
              have hb5 := Ve.below_n1 z4 ZFo
              have hN := heap_alloc_last z4 ZFo
              obtain ⟨z5, hz5_⟩ : ∃ y, z4.alloc ZFo = y := ⟨_, rfl⟩
              rw [hz5_] at hb5 hN ⊢
              clear hz5_
              have hs5 := hb5.size
              have HU5 := Lib.hid (HU4.out.trans (hb5.mono HU4.out.size))
              have hR5 := (hb5.block _ (lt_heap hR4)).trans hR4
              have B5 := Lib.hid (own_via (w' := z5) B4.out (fun r hr => by simp [Value.ownBlock] at hr; subst hr; exact hb5.block _ (by omega)))
              have RL5 := Lib.hid (RL4.out.keep (fun b hb => hb5.block b (by omega)))
              have RA5 := Lib.hid (RA4.out.keep (fun b hb => hb5.block b (by omega)))
              obtain ⟨q, hq⟩ : ∃ q, q = z4.heap.size := ⟨_, rfl⟩
              rw [← hq] at hN ⊢
              have hQ5 := hN
              have hltq5 := lt_heap hN
              have hqa : q ≤ z4.heap.size := by omega
              have hqb : z4.heap.size ≤ q := by omega
              clear hN hq
              refine Ol.keep hK _ _ ((hb5.block _ (lt_heap hS4)).trans hS4) (fun hS5 => ?_)
              clear hK K
              refine Ol.way_ready (rs := [10]) (by as_aux_lemma => kernel_rfl) (by simp) (Ol.Each.cons rfl (fun K hK => ?_) Ol.Each.nil)
              refine app_int ji jz0 jz1 jz2 B_ B5.out HU5.out (by have := HU5.out.size; omega) af cf F (HF_.out.on HU5.out) KF.out bf ⟨rfl, rfl⟩ ⟨rfl, rfl⟩ ?_
              intro a_f c_f z6 hgrow hs6 HU6 hRR
              have hR6 := (hgrow.block _ (lt_heap hR5) (by simp; omega)).trans hR5
              have RL6 := Lib.hid (RL5.out.keep (fun b hb => hgrow.block b (by omega) (by simp; omega)))
              have RA6 := Lib.hid (RA5.out.keep (fun b hb => hgrow.block b (by omega) (by simp; omega)))
              have hQ6 := (hgrow.block _ (lt_heap hQ5) (by simp; omega)).trans hQ5
              have RB6 := Lib.hid hRR
              clear hRR
              refine Ol.keep hK _ _ ((hgrow.block _ (lt_heap hS5) (by simp; omega)).trans hS5) (fun hS6 => ?_)
              clear hK K
              refine Ol.way_plain (i := 11) (v := ?_) rfl (by as_aux_lemma => kernel_rfl) (by as_aux_lemma => kernel_rfl) (by as_aux_lemma => kernel_rfl) (fun _ _ _ h => h) (by decide) (Or.inl ⟨by kernel_rfl, by (intro wz _; go_simp; try with_reducible rfl)⟩) (Ol.on hS6) ?_
              go_simp
              refine Ol.way_ready (rs := [13]) (by as_aux_lemma => kernel_rfl) (by simp) (Ol.Each.cons rfl (fun K hK => ?_) Ol.Each.nil)
              refine step_store_row rfl 40 (.tmp 3) (.tmp 21) rfl _ (cqf W H a_l nl c_l a_s ns c_s a_f nf c_f) q 40 hQ6 rfl (by first | rfl | (go_simp; done) | (go_simp; rfl)) (by as_aux_lemma => kernel_rfl) rfl (by simp [Value.oneCell']) ?_
              have HC_ := Lib.hid (to_close (CQ := (cqf W H a_l nl c_l a_s ns c_s a_f nf c_f)) hQ6 hS6 hR6 HU6.out (by omega) (RL6.out.weak (fun b hb => by omega)) (RA6.out.weak (fun b hb => by omega)) (RB6.out.weak (fun b hb => by omega)))
              refine Ol.past hK (by as_aux_lemma => kernel_rfl) _ _ ?_
              clear hK K
              refine Ol.way_done (by as_aux_lemma => kernel_rfl) ?_ _
              go_wp2_with fail
              go_meet
              exact ⟨q, a_l, a_s, a_f, c_l, c_s, c_f, rfl, by omega, HC_.out⟩
          · go_simp
            have hb4 := Ve.below_n1 z3 ZFo
            have hN := heap_alloc_last z3 ZFo
            obtain ⟨z4, hz4_⟩ : ∃ y, z3.alloc ZFo = y := ⟨_, rfl⟩
            rw [hz4_] at hb4 hN ⊢
            clear hz4_
            have hs4 := hb4.size
            have HU4 := Lib.hid (HU3.out.trans (hb4.mono HU3.out.size))
            have hR4 := (hb4.block _ (lt_heap hR3)).trans hR3
            have B4 := Lib.hid (own_via (w' := z4) B3.out (fun r hr => by simp [Value.ownBlock] at hr; subst hr; exact hb4.block _ (by omega)))
            have RL4 := Lib.hid (RL3.out.keep (fun b hb => hb4.block b (by omega)))
            have A4 := Lib.hid (own_via (w' := z4) A3.out (fun r hr => by simp [Value.ownBlock] at hr; subst hr; exact hb4.block _ (by omega)))
            obtain ⟨q, hq⟩ : ∃ q, q = z3.heap.size := ⟨_, rfl⟩
            rw [← hq] at hN ⊢
            have hQ4 := hN
            have hltq4 := lt_heap hN
            have hqa : q ≤ z3.heap.size := by omega
            have hqb : z3.heap.size ≤ q := by omega
            clear hN hq
            refine Ol.keep hK _ _ ((hb4.block _ (lt_heap hS3)).trans hS3) (fun hS4 => ?_)
            clear hK K
            refine Ol.way_ready (rs := [6]) (by as_aux_lemma => kernel_rfl) (by simp) (Ol.Each.cons rfl (fun K hK => ?_) Ol.Each.nil)
            refine app_int ji jz0 jz1 jz2 A_ A4.out HU4.out (by have := HU4.out.size; omega) ax cx S (HS_.out.on HU4.out) KS.out bs ⟨rfl, rfl⟩ ⟨rfl, rfl⟩ ?_
            intro a_s c_s z5 hgrow hs5 HU5 hRR
            have hR5 := (hgrow.block _ (lt_heap hR4) (by simp; omega)).trans hR4
            have B5 := Lib.hid (own_via (w' := z5) B4.out (fun r hr => by simp [Value.ownBlock] at hr; subst hr; exact hgrow.block _ (by omega) (by simp; omega)))
            have RL5 := Lib.hid (RL4.out.keep (fun b hb => hgrow.block b (by omega) (by simp; omega)))
            have hQ5 := (hgrow.block _ (lt_heap hQ4) (by simp; omega)).trans hQ4
            have RA5 := Lib.hid hRR
            clear hRR
            refine Ol.keep hK _ _ ((hgrow.block _ (lt_heap hS4) (by simp; omega)).trans hS4) (fun hS5 => ?_)
            clear hK K
            refine Ol.way_ready (rs := [10]) (by as_aux_lemma => kernel_rfl) (by simp) (Ol.Each.cons rfl (fun K hK => ?_) Ol.Each.nil)
            refine app_int ji jz0 jz1 jz2 B_ B5.out HU5.out (by have := HU5.out.size; omega) af cf F (HF_.out.on HU5.out) KF.out bf ⟨rfl, rfl⟩ ⟨rfl, rfl⟩ ?_
            intro a_f c_f z6 hgrow hs6 HU6 hRR
            have hR6 := (hgrow.block _ (lt_heap hR5) (by simp; omega)).trans hR5
            have RL6 := Lib.hid (RL5.out.keep (fun b hb => hgrow.block b (by omega) (by simp; omega)))
            have hQ6 := (hgrow.block _ (lt_heap hQ5) (by simp; omega)).trans hQ5
            have RA6 := Lib.hid (RA5.out.keep (fun b hb => hgrow.block b (by omega) (by simp; omega)))
            have RB6 := Lib.hid hRR
            clear hRR
            refine Ol.keep hK _ _ ((hgrow.block _ (lt_heap hS5) (by simp; omega)).trans hS5) (fun hS6 => ?_)
            clear hK K
            refine Ol.way_plain (i := 11) (v := ?_) rfl (by as_aux_lemma => kernel_rfl) (by as_aux_lemma => kernel_rfl) (by as_aux_lemma => kernel_rfl) (fun _ _ _ h => h) (by decide) (Or.inl ⟨by kernel_rfl, by (intro wz _; go_simp; try with_reducible rfl)⟩) (Ol.on hS6) ?_
            go_simp
            refine Ol.way_ready (rs := [13]) (by as_aux_lemma => kernel_rfl) (by simp) (Ol.Each.cons rfl (fun K hK => ?_) Ol.Each.nil)
            refine step_store_row rfl 40 (.tmp 3) (.tmp 21) rfl _ (cqf W H a_l nl c_l a_s ns c_s a_f nf c_f) q 40 hQ6 rfl (by first | rfl | (go_simp; done) | (go_simp; rfl)) (by as_aux_lemma => kernel_rfl) rfl (by simp [Value.oneCell']) ?_
            have HC_ := Lib.hid (to_close (CQ := (cqf W H a_l nl c_l a_s ns c_s a_f nf c_f)) hQ6 hS6 hR6 HU6.out (by omega) (RL6.out.weak (fun b hb => by omega)) (RA6.out.weak (fun b hb => by omega)) (RB6.out.weak (fun b hb => by omega)))
            refine Ol.past hK (by as_aux_lemma => kernel_rfl) _ _ ?_
            clear hK K
            refine Ol.way_done (by as_aux_lemma => kernel_rfl) ?_ _
            go_wp2_with fail
            go_meet
            exact ⟨q, a_l, a_s, a_f, c_l, c_s, c_f, rfl, by omega, HC_.out⟩
        · go_simp
          have hb3 := Ve.below_n1 z2 ZFo
          have hN := heap_alloc_last z2 ZFo
          obtain ⟨z3, hz3_⟩ : ∃ y, z2.alloc ZFo = y := ⟨_, rfl⟩
          rw [hz3_] at hb3 hN ⊢
          clear hz3_
          have hs3 := hb3.size
          have HU3 := Lib.hid (HU2.out.trans (hb3.mono HU2.out.size))
          have hR3 := (hb3.block _ (lt_heap hR2)).trans hR2
          have B3 := Lib.hid (own_via (w' := z3) B2.out (fun r hr => by simp [Value.ownBlock] at hr; subst hr; exact hb3.block _ (by omega)))
          have RL3 := Lib.hid (RL2.out.keep (fun b hb => hb3.block b (by omega)))
          obtain ⟨q, hq⟩ : ∃ q, q = z2.heap.size := ⟨_, rfl⟩
          rw [← hq] at hN ⊢
          have hQ3 := hN
          have hltq3 := lt_heap hN
          have hqa : q ≤ z2.heap.size := by omega
          have hqb : z2.heap.size ≤ q := by omega
          clear hN hq
          refine Ol.keep hK _ _ ((hb3.block _ (lt_heap hS2)).trans hS2) (fun hS3 => ?_)
          clear hK K
          refine Ol.way_ready (rs := [3]) (by as_aux_lemma => kernel_rfl) (by simp) (Ol.Each.cons rfl (fun K hK => ?_) Ol.Each.nil)
          go_simp
          have hb4 := Ve.below_n1 z3 (.cells #[] 3)
          have hW4 := World.ownsRow_lit (e := 3) (size := 1) z3 #[] 0 (Nat.le_refl _) (by unfold maxLen; omega) rfl
          obtain ⟨z4, hz4_⟩ : ∃ y, z3.alloc (.cells #[] 3) = y := ⟨_, rfl⟩
          rw [hz4_] at hb4 hW4 ⊢
          clear hz4_
          have hs4 := hb4.size
          have HU4 := Lib.hid (HU3.out.trans (hb4.mono HU3.out.size))
          have hR4 := (hb4.block _ (lt_heap hR3)).trans hR3
          have B4 := Lib.hid (own_via (w' := z4) B3.out (fun r hr => by simp [Value.ownBlock] at hr; subst hr; exact hb4.block _ (by omega)))
          have RL4 := Lib.hid (RL3.out.keep (fun b hb => hb4.block b (by omega)))
          have hQ4 := (hb4.block _ (lt_heap hQ3)).trans hQ3
          obtain ⟨A_, hA_⟩ : ∃ x, x = z3.heap.size := ⟨_, rfl⟩
          rw [← hA_] at hW4 ⊢
          have A4 := Lib.hid hW4
          have hltA4 := (hW4.lt A_ rfl).2
          have haA : A_ ≤ z3.heap.size := by omega
          have hb_A : z3.heap.size ≤ A_ := by omega
          clear hW4 hA_
          refine Ol.keep hK _ _ ((hb4.block _ (lt_heap hS3)).trans hS3) (fun hS4 => ?_)
          clear hK K
          refine Ol.way_ready (rs := [6]) (by as_aux_lemma => kernel_rfl) (by simp) (Ol.Each.cons rfl (fun K hK => ?_) Ol.Each.nil)
          refine app_int ji jz0 jz1 jz2 A_ A4.out HU4.out (by have := HU4.out.size; omega) ax cx S (HS_.out.on HU4.out) KS.out bs ⟨rfl, rfl⟩ ⟨rfl, rfl⟩ ?_
          intro a_s c_s z5 hgrow hs5 HU5 hRR
          have hR5 := (hgrow.block _ (lt_heap hR4) (by simp; omega)).trans hR4
          have B5 := Lib.hid (own_via (w' := z5) B4.out (fun r hr => by simp [Value.ownBlock] at hr; subst hr; exact hgrow.block _ (by omega) (by simp; omega)))
          have RL5 := Lib.hid (RL4.out.keep (fun b hb => hgrow.block b (by omega) (by simp; omega)))
          have hQ5 := (hgrow.block _ (lt_heap hQ4) (by simp; omega)).trans hQ4
          have RA5 := Lib.hid hRR
          clear hRR
          refine Ol.keep hK _ _ ((hgrow.block _ (lt_heap hS4) (by simp; omega)).trans hS4) (fun hS5 => ?_)
          clear hK K
          refine Ol.way_ready (rs := [10]) (by as_aux_lemma => kernel_rfl) (by simp) (Ol.Each.cons rfl (fun K hK => ?_) Ol.Each.nil)
          refine app_int ji jz0 jz1 jz2 B_ B5.out HU5.out (by have := HU5.out.size; omega) af cf F (HF_.out.on HU5.out) KF.out bf ⟨rfl, rfl⟩ ⟨rfl, rfl⟩ ?_
          intro a_f c_f z6 hgrow hs6 HU6 hRR
          have hR6 := (hgrow.block _ (lt_heap hR5) (by simp; omega)).trans hR5
          have RL6 := Lib.hid (RL5.out.keep (fun b hb => hgrow.block b (by omega) (by simp; omega)))
          have hQ6 := (hgrow.block _ (lt_heap hQ5) (by simp; omega)).trans hQ5
          have RA6 := Lib.hid (RA5.out.keep (fun b hb => hgrow.block b (by omega) (by simp; omega)))
          have RB6 := Lib.hid hRR
          clear hRR
          refine Ol.keep hK _ _ ((hgrow.block _ (lt_heap hS5) (by simp; omega)).trans hS5) (fun hS6 => ?_)
          clear hK K
          refine Ol.way_plain (i := 11) (v := ?_) rfl (by as_aux_lemma => kernel_rfl) (by as_aux_lemma => kernel_rfl) (by as_aux_lemma => kernel_rfl) (fun _ _ _ h => h) (by decide) (Or.inl ⟨by kernel_rfl, by (intro wz _; go_simp; try with_reducible rfl)⟩) (Ol.on hS6) ?_
          go_simp
          refine Ol.way_ready (rs := [13]) (by as_aux_lemma => kernel_rfl) (by simp) (Ol.Each.cons rfl (fun K hK => ?_) Ol.Each.nil)
          refine step_store_row rfl 40 (.tmp 3) (.tmp 21) rfl _ (cqf W H a_l nl c_l a_s ns c_s a_f nf c_f) q 40 hQ6 rfl (by first | rfl | (go_simp; done) | (go_simp; rfl)) (by as_aux_lemma => kernel_rfl) rfl (by simp [Value.oneCell']) ?_
          have HC_ := Lib.hid (to_close (CQ := (cqf W H a_l nl c_l a_s ns c_s a_f nf c_f)) hQ6 hS6 hR6 HU6.out (by omega) (RL6.out.weak (fun b hb => by omega)) (RA6.out.weak (fun b hb => by omega)) (RB6.out.weak (fun b hb => by omega)))
          refine Ol.past hK (by as_aux_lemma => kernel_rfl) _ _ ?_
          clear hK K
          refine Ol.way_done (by as_aux_lemma => kernel_rfl) ?_ _
          go_wp2_with fail
          go_meet
          exact ⟨q, a_l, a_s, a_f, c_l, c_s, c_f, rfl, by omega, HC_.out⟩
      · go_simp
        have hb2 := Ve.below_n1 z1 (.cells #[] 3)
        have hW2 := World.ownsRow_lit (e := 3) (size := 1) z1 #[] 0 (Nat.le_refl _) (by unfold maxLen; omega) rfl
        obtain ⟨z2, hz2_⟩ : ∃ y, z1.alloc (.cells #[] 3) = y := ⟨_, rfl⟩
        rw [hz2_] at hb2 hW2 ⊢
        clear hz2_
        have hs2 := hb2.size
        have HU2 := Lib.hid (HU1.out.trans (hb2.mono HU1.out.size))
        have hR2 := (hb2.block _ (lt_heap hR1)).trans hR1
        have B2 := Lib.hid (own_via (w' := z2) B1.out (fun r hr => by simp [Value.ownBlock] at hr; subst hr; exact hb2.block _ (by omega)))
        obtain ⟨A_, hA_⟩ : ∃ x, x = z1.heap.size := ⟨_, rfl⟩
        rw [← hA_] at hW2 ⊢
        have A2 := Lib.hid hW2
        have hltA2 := (hW2.lt A_ rfl).2
        have haA : A_ ≤ z1.heap.size := by omega
        have hb_A : z1.heap.size ≤ A_ := by omega
        clear hW2 hA_
        refine Ol.keep hK _ _ ((hb2.block _ (lt_heap hS1)).trans hS1) (fun hS2 => ?_)
        clear hK K
        refine Ol.way_ready (rs := [2, 12]) (by as_aux_lemma => kernel_rfl) (by simp) (Ol.Each.cons rfl (fun K hK => ?_) (Ol.Each.cons rfl (fun K hK => ?_) Ol.Each.nil))
        · go_simp
          go_wp2_with (go_at_call 28; refine (tosheet_any W H al nl cl L _ (HL_.out.on HU2.out) bl).mono ?_; rintro e z3 ⟨⟨a_l, c_l, rfl, hla⟩, hb3⟩)
          have hs3 := hb3.size
          have HU3 := Lib.hid (HU2.out.trans (hb3.mono HU2.out.size))
          have hR3 := (hb3.block _ (lt_heap hR2)).trans hR2
          have B3 := Lib.hid (own_via (w' := z3) B2.out (fun r hr => by simp [Value.ownBlock] at hr; subst hr; exact hb3.block _ (by omega)))
          have A3 := Lib.hid (own_via (w' := z3) A2.out (fun r hr => by simp [Value.ownBlock] at hr; subst hr; exact hb3.block _ (by omega)))
          have RL3 := Lib.hid (RwP.weak (P' := fun b => z2.heap.size ≤ b ∧ b < z3.heap.size) (hla.lt (by decide)) (fun b hb => hb))
          clear hla
          refine Ol.keep hK _ _ ((hb3.block _ (lt_heap hS2)).trans hS2) (fun hS3 => ?_)
          clear hK K
          refine Ol.way_ready (rs := [6, 12]) (by as_aux_lemma => kernel_rfl) (by simp) (Ol.Each.cons rfl (fun K hK => ?_) (Ol.Each.cons rfl (fun K hK => ?_) Ol.Each.nil))
          · refine app_int ji jz0 jz1 jz2 A_ A3.out HU3.out (by have := HU3.out.size; omega) ax cx S (HS_.out.on HU3.out) KS.out bs ⟨rfl, rfl⟩ ⟨rfl, rfl⟩ ?_
            intro a_s c_s z4 hgrow hs4 HU4 hRR
            have hR4 := (hgrow.block _ (lt_heap hR3) (by simp; omega)).trans hR3
            have B4 := Lib.hid (own_via (w' := z4) B3.out (fun r hr => by simp [Value.ownBlock] at hr; subst hr; exact hgrow.block _ (by omega) (by simp; omega)))
            have RL4 := Lib.hid (RL3.out.keep (fun b hb => hgrow.block b (by omega) (by simp; omega)))
            have RA4 := Lib.hid hRR
            clear hRR
            refine Ol.keep hK _ _ ((hgrow.block _ (lt_heap hS3) (by simp; omega)).trans hS3) (fun hS4 => ?_)
            clear hK K
            refine Ol.way_ready (rs := [10, 12]) (by as_aux_lemma => kernel_rfl) (by simp) (Ol.Each.cons rfl (fun K hK => ?_) (Ol.Each.cons rfl (fun K hK => ?_) Ol.Each.nil))
            · refine app_int ji jz0 jz1 jz2 B_ B4.out HU4.out (by have := HU4.out.size; omega) af cf F (HF_.out.on HU4.out) KF.out bf ⟨rfl, rfl⟩ ⟨rfl, rfl⟩ ?_
              intro a_f c_f z5 hgrow hs5 HU5 hRR
              have hR5 := (hgrow.block _ (lt_heap hR4) (by simp; omega)).trans hR4
              have RL5 := Lib.hid (RL4.out.keep (fun b hb => hgrow.block b (by omega) (by simp; omega)))
              have RA5 := Lib.hid (RA4.out.keep (fun b hb => hgrow.block b (by omega) (by simp; omega)))
              have RB5 := Lib.hid hRR
              clear hRR
              refine Ol.keep hK _ _ ((hgrow.block _ (lt_heap hS4) (by simp; omega)).trans hS4) (fun hS5 => ?_)
              clear hK K
              refine Ol.way_plain (i := 11) (v := ?_) rfl (by as_aux_lemma => kernel_rfl) (by as_aux_lemma => kernel_rfl) (by as_aux_lemma => kernel_rfl) (fun _ _ _ h => h) (by decide) (Or.inl ⟨by kernel_rfl, by (intro wz _; go_simp; try with_reducible rfl)⟩) (Ol.on hS5) ?_
              go_simp
              refine Ol.way_ready (rs := [12]) (by as_aux_lemma => kernel_rfl) (by simp) (Ol.Each.cons rfl (fun K hK => ?_) Ol.Each.nil)
              go_simp
              have hb6 := Ve.below_n1 z5 ZFo
              have hN := heap_alloc_last z5 ZFo
              obtain ⟨z6, hz6_⟩ : ∃ y, z5.alloc ZFo = y := ⟨_, rfl⟩
              rw [hz6_] at hb6 hN ⊢
              clear hz6_
              have hs6 := hb6.size
              have HU6 := Lib.hid (HU5.out.trans (hb6.mono HU5.out.size))
              have hR6 := (hb6.block _ (lt_heap hR5)).trans hR5
              have RL6 := Lib.hid (RL5.out.keep (fun b hb => hb6.block b (by omega)))
              have RA6 := Lib.hid (RA5.out.keep (fun b hb => hb6.block b (by omega)))
              have RB6 := Lib.hid (RB5.out.keep (fun b hb => hb6.block b (by omega)))
              obtain ⟨q, hq⟩ : ∃ q, q = z5.heap.size := ⟨_, rfl⟩
              rw [← hq] at hN ⊢
              have hQ6 := hN
              have hltq6 := lt_heap hN
              have hqa : q ≤ z5.heap.size := by omega
              have hqb : z5.heap.size ≤ q := by omega
              clear hN hq
              refine Ol.keep hK _ _ ((hb6.block _ (lt_heap hS5)).trans hS5) (fun hS6 => ?_)
              clear hK K
              refine Ol.way_ready (rs := [13]) (by as_aux_lemma => kernel_rfl) (by simp) (Ol.Each.cons rfl (fun K hK => ?_) Ol.Each.nil)
              refine step_store_row rfl 40 (.tmp 3) (.tmp 21) rfl _ (cqf W H a_l nl c_l a_s ns c_s a_f nf c_f) q 40 hQ6 rfl (by first | rfl | (go_simp; done) | (go_simp; rfl)) (by as_aux_lemma => kernel_rfl) rfl (by simp [Value.oneCell']) ?_
              have HC_ := Lib.hid (to_close (CQ := (cqf W H a_l nl c_l a_s ns c_s a_f nf c_f)) hQ6 hS6 hR6 HU6.out (by omega) (RL6.out.weak (fun b hb => by omega)) (RA6.out.weak (fun b hb => by omega)) (RB6.out.weak (fun b hb => by omega)))
              refine Ol.past hK (by as_aux_lemma => kernel_rfl) _ _ ?_
              clear hK K
              refine Ol.way_done (by as_aux_lemma => kernel_rfl) ?_ _
              go_wp2_with fail
              go_meet
              exact ⟨q, a_l, a_s, a_f, c_l, c_s, c_f, rfl, by omega, HC_.out⟩
            · go_simp
              have hb5 := Ve.below_n1 z4 ZFo
              have hN := heap_alloc_last z4 ZFo
              obtain ⟨z5, hz5_⟩ : ∃ y, z4.alloc ZFo = y := ⟨_, rfl⟩
              rw [hz5_] at hb5 hN ⊢
              clear hz5_
              have hs5 := hb5.size
              have HU5 := Lib.hid (HU4.out.trans (hb5.mono HU4.out.size))
              have hR5 := (hb5.block _ (lt_heap hR4)).trans hR4
              have B5 := Lib.hid (own_via (w' := z5) B4.out (fun r hr => by simp [Value.ownBlock] at hr; subst hr; exact hb5.block _ (by omega)))
              have RL5 := Lib.hid (RL4.out.keep (fun b hb => hb5.block b (by omega)))
              have RA5 := Lib.hid (RA4.out.keep (fun b hb => hb5.block b (by omega)))
              obtain ⟨q, hq⟩ : ∃ q, q = z4.heap.size := ⟨_, rfl⟩
              rw [← hq] at hN ⊢
              have hQ5 := hN
              have hltq5 := lt_heap hN
              have hqa : q ≤ z4.heap.size := by omega
              have hqb : z4.heap.size ≤ q := by omega
              clear hN hq
              refine Ol.keep hK _ _ ((hb5.block _ (lt_heap hS4)).trans hS4) (fun hS5 => ?_)
              clear hK K
              refine Ol.way_ready (rs := [10]) (by as_aux_lemma => kernel_rfl) (by simp) (Ol.Each.cons rfl (fun K hK => ?_) Ol.Each.nil)
              refine app_int ji jz0 jz1 jz2 B_ B5.out HU5.out (by have := HU5.out.size; omega) af cf F (HF_.out.on HU5.out) KF.out bf ⟨rfl, rfl⟩ ⟨rfl, rfl⟩ ?_
              intro a_f c_f z6 hgrow hs6 HU6 hRR
              have hR6 := (hgrow.block _ (lt_heap hR5) (by simp; omega)).trans hR5
              have RL6 := Lib.hid (RL5.out.keep (fun b hb => hgrow.block b (by omega) (by simp; omega)))
              have RA6 := Lib.hid (RA5.out.keep (fun b hb => hgrow.block b (by omega) (by simp; omega)))
              have hQ6 := (hgrow.block _ (lt_heap hQ5) (by simp; omega)).trans hQ5
              have RB6 := Lib.hid hRR
              clear hRR
              refine Ol.keep hK _ _ ((hgrow.block _ (lt_heap hS5) (by simp; omega)).trans hS5) (fun hS6 => ?_)
              clear hK K
              refine Ol.way_plain (i := 11) (v := ?_) rfl (by as_aux_lemma => kernel_rfl) (by as_aux_lemma => kernel_rfl) (by as_aux_lemma => kernel_rfl) (fun _ _ _ h => h) (by decide) (Or.inl ⟨by kernel_rfl, by (intro wz _; go_simp; try with_reducible rfl)⟩) (Ol.on hS6) ?_
              go_simp
              refine Ol.way_ready (rs := [13]) (by as_aux_lemma => kernel_rfl) (by simp) (Ol.Each.cons rfl (fun K hK => ?_) Ol.Each.nil)
              refine step_store_row rfl 40 (.tmp 3) (.tmp 21) rfl _ (cqf W H a_l nl c_l a_s ns c_s a_f nf c_f) q 40 hQ6 rfl (by first | rfl | (go_simp; done) | (go_simp; rfl)) (by as_aux_lemma => kernel_rfl) rfl (by simp [Value.oneCell']) ?_
              have HC_ := Lib.hid (to_close (CQ := (cqf W H a_l nl c_l a_s ns c_s a_f nf c_f)) hQ6 hS6 hR6 HU6.out (by omega) (RL6.out.weak (fun b hb => by omega)) (RA6.out.weak (fun b hb => by omega)) (RB6.out.weak (fun b hb => by omega)))
              refine Ol.past hK (by as_aux_lemma => kernel_rfl) _ _ ?_
              clear hK K
              refine Ol.way_done (by as_aux_lemma => kernel_rfl) ?_ _
              go_wp2_with fail
              go_meet
              exact ⟨q, a_l, a_s, a_f, c_l, c_s, c_f, rfl, by omega, HC_.out⟩
          · go_simp
            have hb4 := Ve.below_n1 z3 ZFo
            have hN := heap_alloc_last z3 ZFo
            obtain ⟨z4, hz4_⟩ : ∃ y, z3.alloc ZFo = y := ⟨_, rfl⟩
            rw [hz4_] at hb4 hN ⊢
            clear hz4_
            have hs4 := hb4.size
            have HU4 := Lib.hid (HU3.out.trans (hb4.mono HU3.out.size))
            have hR4 := (hb4.block _ (lt_heap hR3)).trans hR3
            have B4 := Lib.hid (own_via (w' := z4) B3.out (fun r hr => by simp [Value.ownBlock] at hr; subst hr; exact hb4.block _ (by omega)))
            have A4 := Lib.hid (own_via (w' := z4) A3.out (fun r hr => by simp [Value.ownBlock] at hr; subst hr; exact hb4.block _ (by omega)))
            have RL4 := Lib.hid (RL3.out.keep (fun b hb => hb4.block b (by omega)))
            obtain ⟨q, hq⟩ : ∃ q, q = z3.heap.size := ⟨_, rfl⟩
            rw [← hq] at hN ⊢
            have hQ4 := hN
            have hltq4 := lt_heap hN
            have hqa : q ≤ z3.heap.size := by omega
            have hqb : z3.heap.size ≤ q := by omega
            clear hN hq
            refine Ol.keep hK _ _ ((hb4.block _ (lt_heap hS3)).trans hS3) (fun hS4 => ?_)
            clear hK K
            refine Ol.way_ready (rs := [6]) (by as_aux_lemma => kernel_rfl) (by simp) (Ol.Each.cons rfl (fun K hK => ?_) Ol.Each.nil)
            refine app_int ji jz0 jz1 jz2 A_ A4.out HU4.out (by have := HU4.out.size; omega) ax cx S (HS_.out.on HU4.out) KS.out bs ⟨rfl, rfl⟩ ⟨rfl, rfl⟩ ?_
            intro a_s c_s z5 hgrow hs5 HU5 hRR
            have hR5 := (hgrow.block _ (lt_heap hR4) (by simp; omega)).trans hR4
            have B5 := Lib.hid (own_via (w' := z5) B4.out (fun r hr => by simp [Value.ownBlock] at hr; subst hr; exact hgrow.block _ (by omega) (by simp; omega)))
            have RL5 := Lib.hid (RL4.out.keep (fun b hb => hgrow.block b (by omega) (by simp; omega)))
            have hQ5 := (hgrow.block _ (lt_heap hQ4) (by simp; omega)).trans hQ4
            have RA5 := Lib.hid hRR
            clear hRR
            refine Ol.keep hK _ _ ((hgrow.block _ (lt_heap hS4) (by simp; omega)).trans hS4) (fun hS5 => ?_)
            clear hK K
            refine Ol.way_ready (rs := [10]) (by as_aux_lemma => kernel_rfl) (by simp) (Ol.Each.cons rfl (fun K hK => ?_) Ol.Each.nil)
            refine app_int ji jz0 jz1 jz2 B_ B5.out HU5.out (by have := HU5.out.size; omega) af cf F (HF_.out.on HU5.out) KF.out bf ⟨rfl, rfl⟩ ⟨rfl, rfl⟩ ?_
            intro a_f c_f z6 hgrow hs6 HU6 hRR
            have hR6 := (hgrow.block _ (lt_heap hR5) (by simp; omega)).trans hR5
            have RL6 := Lib.hid (RL5.out.keep (fun b hb => hgrow.block b (by omega) (by simp; omega)))
            have hQ6 := (hgrow.block _ (lt_heap hQ5) (by simp; omega)).trans hQ5
            have RA6 := Lib.hid (RA5.out.keep (fun b hb => hgrow.block b (by omega) (by simp; omega)))
            have RB6 := Lib.hid hRR
            clear hRR
            refine Ol.keep hK _ _ ((hgrow.block _ (lt_heap hS5) (by simp; omega)).trans hS5) (fun hS6 => ?_)
            clear hK K
            refine Ol.way_plain (i := 11) (v := ?_) rfl (by as_aux_lemma => kernel_rfl) (by as_aux_lemma => kernel_rfl) (by as_aux_lemma => kernel_rfl) (fun _ _ _ h => h) (by decide) (Or.inl ⟨by kernel_rfl, by (intro wz _; go_simp; try with_reducible rfl)⟩) (Ol.on hS6) ?_
            go_simp
            refine Ol.way_ready (rs := [13]) (by as_aux_lemma => kernel_rfl) (by simp) (Ol.Each.cons rfl (fun K hK => ?_) Ol.Each.nil)
            refine step_store_row rfl 40 (.tmp 3) (.tmp 21) rfl _ (cqf W H a_l nl c_l a_s ns c_s a_f nf c_f) q 40 hQ6 rfl (by first | rfl | (go_simp; done) | (go_simp; rfl)) (by as_aux_lemma => kernel_rfl) rfl (by simp [Value.oneCell']) ?_
            have HC_ := Lib.hid (to_close (CQ := (cqf W H a_l nl c_l a_s ns c_s a_f nf c_f)) hQ6 hS6 hR6 HU6.out (by omega) (RL6.out.weak (fun b hb => by omega)) (RA6.out.weak (fun b hb => by omega)) (RB6.out.weak (fun b hb => by omega)))
            refine Ol.past hK (by as_aux_lemma => kernel_rfl) _ _ ?_
            clear hK K
            refine Ol.way_done (by as_aux_lemma => kernel_rfl) ?_ _
            go_wp2_with fail
            go_meet
            exact ⟨q, a_l, a_s, a_f, c_l, c_s, c_f, rfl, by omega, HC_.out⟩
        · go_simp
          have hb3 := Ve.below_n1 z2 ZFo
          have hN := heap_alloc_last z2 ZFo
          obtain ⟨z3, hz3_⟩ : ∃ y, z2.alloc ZFo = y := ⟨_, rfl⟩
          rw [hz3_] at hb3 hN ⊢
          clear hz3_
          have hs3 := hb3.size
          have HU3 := Lib.hid (HU2.out.trans (hb3.mono HU2.out.size))
          have hR3 := (hb3.block _ (lt_heap hR2)).trans hR2
          have B3 := Lib.hid (own_via (w' := z3) B2.out (fun r hr => by simp [Value.ownBlock] at hr; subst hr; exact hb3.block _ (by omega)))
          have A3 := Lib.hid (own_via (w' := z3) A2.out (fun r hr => by simp [Value.ownBlock] at hr; subst hr; exact hb3.block _ (by omega)))
          obtain ⟨q, hq⟩ : ∃ q, q = z2.heap.size := ⟨_, rfl⟩
          rw [← hq] at hN ⊢
          have hQ3 := hN
          have hltq3 := lt_heap hN
          have hqa : q ≤ z2.heap.size := by omega
          have hqb : z2.heap.size ≤ q := by omega
          clear hN hq
          refine Ol.keep hK _ _ ((hb3.block _ (lt_heap hS2)).trans hS2) (fun hS3 => ?_)
          clear hK K
          refine Ol.way_ready (rs := [2]) (by as_aux_lemma => kernel_rfl) (by simp) (Ol.Each.cons rfl (fun K hK => ?_) Ol.Each.nil)
          go_simp
          go_wp2_with (go_at_call 28; refine (tosheet_any W H al nl cl L _ (HL_.out.on HU3.out) bl).mono ?_; rintro e z4 ⟨⟨a_l, c_l, rfl, hla⟩, hb4⟩)
          have hs4 := hb4.size
          have HU4 := Lib.hid (HU3.out.trans (hb4.mono HU3.out.size))
          have hR4 := (hb4.block _ (lt_heap hR3)).trans hR3
          have B4 := Lib.hid (own_via (w' := z4) B3.out (fun r hr => by simp [Value.ownBlock] at hr; subst hr; exact hb4.block _ (by omega)))
          have A4 := Lib.hid (own_via (w' := z4) A3.out (fun r hr => by simp [Value.ownBlock] at hr; subst hr; exact hb4.block _ (by omega)))
          have hQ4 := (hb4.block _ (lt_heap hQ3)).trans hQ3
          have RL4 := Lib.hid (RwP.weak (P' := fun b => z3.heap.size ≤ b ∧ b < z4.heap.size) (hla.lt (by decide)) (fun b hb => hb))
          clear hla
          refine Ol.keep hK _ _ ((hb4.block _ (lt_heap hS3)).trans hS3) (fun hS4 => ?_)
          clear hK K
          refine Ol.way_ready (rs := [6]) (by as_aux_lemma => kernel_rfl) (by simp) (Ol.Each.cons rfl (fun K hK => ?_) Ol.Each.nil)
          refine app_int ji jz0 jz1 jz2 A_ A4.out HU4.out (by have := HU4.out.size; omega) ax cx S (HS_.out.on HU4.out) KS.out bs ⟨rfl, rfl⟩ ⟨rfl, rfl⟩ ?_
          intro a_s c_s z5 hgrow hs5 HU5 hRR
          have hR5 := (hgrow.block _ (lt_heap hR4) (by simp; omega)).trans hR4
          have B5 := Lib.hid (own_via (w' := z5) B4.out (fun r hr => by simp [Value.ownBlock] at hr; subst hr; exact hgrow.block _ (by omega) (by simp; omega)))
          have hQ5 := (hgrow.block _ (lt_heap hQ4) (by simp; omega)).trans hQ4
          have RL5 := Lib.hid (RL4.out.keep (fun b hb => hgrow.block b (by omega) (by simp; omega)))
          have RA5 := Lib.hid hRR
          clear hRR
          refine Ol.keep hK _ _ ((hgrow.block _ (lt_heap hS4) (by simp; omega)).trans hS4) (fun hS5 => ?_)
          clear hK K
          refine Ol.way_ready (rs := [10]) (by as_aux_lemma => kernel_rfl) (by simp) (Ol.Each.cons rfl (fun K hK => ?_) Ol.Each.nil)
          refine app_int ji jz0 jz1 jz2 B_ B5.out HU5.out (by have := HU5.out.size; omega) af cf F (HF_.out.on HU5.out) KF.out bf ⟨rfl, rfl⟩ ⟨rfl, rfl⟩ ?_
          intro a_f c_f z6 hgrow hs6 HU6 hRR
          have hR6 := (hgrow.block _ (lt_heap hR5) (by simp; omega)).trans hR5
          have hQ6 := (hgrow.block _ (lt_heap hQ5) (by simp; omega)).trans hQ5
          have RL6 := Lib.hid (RL5.out.keep (fun b hb => hgrow.block b (by omega) (by simp; omega)))
          have RA6 := Lib.hid (RA5.out.keep (fun b hb => hgrow.block b (by omega) (by simp; omega)))
          have RB6 := Lib.hid hRR
          clear hRR
          refine Ol.keep hK _ _ ((hgrow.block _ (lt_heap hS5) (by simp; omega)).trans hS5) (fun hS6 => ?_)
          clear hK K
          refine Ol.way_plain (i := 11) (v := ?_) rfl (by as_aux_lemma => kernel_rfl) (by as_aux_lemma => kernel_rfl) (by as_aux_lemma => kernel_rfl) (fun _ _ _ h => h) (by decide) (Or.inl ⟨by kernel_rfl, by (intro wz _; go_simp; try with_reducible rfl)⟩) (Ol.on hS6) ?_
          go_simp
          refine Ol.way_ready (rs := [13]) (by as_aux_lemma => kernel_rfl) (by simp) (Ol.Each.cons rfl (fun K hK => ?_) Ol.Each.nil)
          refine step_store_row rfl 40 (.tmp 3) (.tmp 21) rfl _ (cqf W H a_l nl c_l a_s ns c_s a_f nf c_f) q 40 hQ6 rfl (by first | rfl | (go_simp; done) | (go_simp; rfl)) (by as_aux_lemma => kernel_rfl) rfl (by simp [Value.oneCell']) ?_
          have HC_ := Lib.hid (to_close (CQ := (cqf W H a_l nl c_l a_s ns c_s a_f nf c_f)) hQ6 hS6 hR6 HU6.out (by omega) (RL6.out.weak (fun b hb => by omega)) (RA6.out.weak (fun b hb => by omega)) (RB6.out.weak (fun b hb => by omega)))
          refine Ol.past hK (by as_aux_lemma => kernel_rfl) _ _ ?_
          clear hK K
          refine Ol.way_done (by as_aux_lemma => kernel_rfl) ?_ _
          go_wp2_with fail
          go_meet
          exact ⟨q, a_l, a_s, a_f, c_l, c_s, c_f, rfl, by omega, HC_.out⟩
      · go_simp
        have hb2 := Ve.below_n1 z1 ZFo
        have hN := heap_alloc_last z1 ZFo
        obtain ⟨z2, hz2_⟩ : ∃ y, z1.alloc ZFo = y := ⟨_, rfl⟩
        rw [hz2_] at hb2 hN ⊢
        clear hz2_
        have hs2 := hb2.size
        have HU2 := Lib.hid (HU1.out.trans (hb2.mono HU1.out.size))
        have hR2 := (hb2.block _ (lt_heap hR1)).trans hR1
        have B2 := Lib.hid (own_via (w' := z2) B1.out (fun r hr => by simp [Value.ownBlock] at hr; subst hr; exact hb2.block _ (by omega)))
        obtain ⟨q, hq⟩ : ∃ q, q = z1.heap.size := ⟨_, rfl⟩
        rw [← hq] at hN ⊢
        have hQ2 := hN
        have hltq2 := lt_heap hN
        have hqa : q ≤ z1.heap.size := by omega
        have hqb : z1.heap.size ≤ q := by omega
        clear hN hq
        refine Ol.keep hK _ _ ((hb2.block _ (lt_heap hS1)).trans hS1) (fun hS2 => ?_)
        clear hK K
        refine Ol.way_ready (rs := [2, 3]) (by as_aux_lemma => kernel_rfl) (by simp) (Ol.Each.cons rfl (fun K hK => ?_) (Ol.Each.cons rfl (fun K hK => ?_) Ol.Each.nil))
        · go_simp
          go_wp2_with (go_at_call 28; refine (tosheet_any W H al nl cl L _ (HL_.out.on HU2.out) bl).mono ?_; rintro e z3 ⟨⟨a_l, c_l, rfl, hla⟩, hb3⟩)
          have hs3 := hb3.size
          have HU3 := Lib.hid (HU2.out.trans (hb3.mono HU2.out.size))
          have hR3 := (hb3.block _ (lt_heap hR2)).trans hR2
          have B3 := Lib.hid (own_via (w' := z3) B2.out (fun r hr => by simp [Value.ownBlock] at hr; subst hr; exact hb3.block _ (by omega)))
          have hQ3 := (hb3.block _ (lt_heap hQ2)).trans hQ2
          have RL3 := Lib.hid (RwP.weak (P' := fun b => z2.heap.size ≤ b ∧ b < z3.heap.size) (hla.lt (by decide)) (fun b hb => hb))
          clear hla
          refine Ol.keep hK _ _ ((hb3.block _ (lt_heap hS2)).trans hS2) (fun hS3 => ?_)
          clear hK K
          refine Ol.way_ready (rs := [3]) (by as_aux_lemma => kernel_rfl) (by simp) (Ol.Each.cons rfl (fun K hK => ?_) Ol.Each.nil)
          go_simp
          have hb4 := Ve.below_n1 z3 (.cells #[] 3)
          have hW4 := World.ownsRow_lit (e := 3) (size := 1) z3 #[] 0 (Nat.le_refl _) (by unfold maxLen; omega) rfl
          obtain ⟨z4, hz4_⟩ : ∃ y, z3.alloc (.cells #[] 3) = y := ⟨_, rfl⟩
          rw [hz4_] at hb4 hW4 ⊢
          clear hz4_
          have hs4 := hb4.size
          have HU4 := Lib.hid (HU3.out.trans (hb4.mono HU3.out.size))
          have hR4 := (hb4.block _ (lt_heap hR3)).trans hR3
          have B4 := Lib.hid (own_via (w' := z4) B3.out (fun r hr => by simp [Value.ownBlock] at hr; subst hr; exact hb4.block _ (by omega)))
          have hQ4 := (hb4.block _ (lt_heap hQ3)).trans hQ3
          have RL4 := Lib.hid (RL3.out.keep (fun b hb => hb4.block b (by omega)))
          obtain ⟨A_, hA_⟩ : ∃ x, x = z3.heap.size := ⟨_, rfl⟩
          rw [← hA_] at hW4 ⊢
          have A4 := Lib.hid hW4
          have hltA4 := (hW4.lt A_ rfl).2
          have haA : A_ ≤ z3.heap.size := by omega
          have hb_A : z3.heap.size ≤ A_ := by omega
          clear hW4 hA_
          refine Ol.keep hK _ _ ((hb4.block _ (lt_heap hS3)).trans hS3) (fun hS4 => ?_)
          clear hK K
          refine Ol.way_ready (rs := [6]) (by as_aux_lemma => kernel_rfl) (by simp) (Ol.Each.cons rfl (fun K hK => ?_) Ol.Each.nil)
          refine app_int ji jz0 jz1 jz2 A_ A4.out HU4.out (by have := HU4.out.size; omega) ax cx S (HS_.out.on HU4.out) KS.out bs ⟨rfl, rfl⟩ ⟨rfl, rfl⟩ ?_
          intro a_s c_s z5 hgrow hs5 HU5 hRR
          have hR5 := (hgrow.block _ (lt_heap hR4) (by simp; omega)).trans hR4
          have B5 := Lib.hid (own_via (w' := z5) B4.out (fun r hr => by simp [Value.ownBlock] at hr; subst hr; exact hgrow.block _ (by omega) (by simp; omega)))
          have hQ5 := (hgrow.block _ (lt_heap hQ4) (by simp; omega)).trans hQ4
          have RL5 := Lib.hid (RL4.out.keep (fun b hb => hgrow.block b (by omega) (by simp; omega)))
          have RA5 := Lib.hid hRR
          clear hRR
          refine Ol.keep hK _ _ ((hgrow.block _ (lt_heap hS4) (by simp; omega)).trans hS4) (fun hS5 => ?_)
          clear hK K
          refine Ol.way_ready (rs := [10]) (by as_aux_lemma => kernel_rfl) (by simp) (Ol.Each.cons rfl (fun K hK => ?_) Ol.Each.nil)
          refine app_int ji jz0 jz1 jz2 B_ B5.out HU5.out (by have := HU5.out.size; omega) af cf F (HF_.out.on HU5.out) KF.out bf ⟨rfl, rfl⟩ ⟨rfl, rfl⟩ ?_
          intro a_f c_f z6 hgrow hs6 HU6 hRR
          have hR6 := (hgrow.block _ (lt_heap hR5) (by simp; omega)).trans hR5
          have hQ6 := (hgrow.block _ (lt_heap hQ5) (by simp; omega)).trans hQ5
          have RL6 := Lib.hid (RL5.out.keep (fun b hb => hgrow.block b (by omega) (by simp; omega)))
          have RA6 := Lib.hid (RA5.out.keep (fun b hb => hgrow.block b (by omega) (by simp; omega)))
          have RB6 := Lib.hid hRR
          clear hRR
          refine Ol.keep hK _ _ ((hgrow.block _ (lt_heap hS5) (by simp; omega)).trans hS5) (fun hS6 => ?_)
          clear hK K
          refine Ol.way_plain (i := 11) (v := ?_) rfl (by as_aux_lemma => kernel_rfl) (by as_aux_lemma => kernel_rfl) (by as_aux_lemma => kernel_rfl) (fun _ _ _ h => h) (by decide) (Or.inl ⟨by kernel_rfl, by (intro wz _; go_simp; try with_reducible rfl)⟩) (Ol.on hS6) ?_
          go_simp
          refine Ol.way_ready (rs := [13]) (by as_aux_lemma => kernel_rfl) (by simp) (Ol.Each.cons rfl (fun K hK => ?_) Ol.Each.nil)
          refine step_store_row rfl 40 (.tmp 3) (.tmp 21) rfl _ (cqf W H a_l nl c_l a_s ns c_s a_f nf c_f) q 40 hQ6 rfl (by first | rfl | (go_simp; done) | (go_simp; rfl)) (by as_aux_lemma => kernel_rfl) rfl (by simp [Value.oneCell']) ?_
          have HC_ := Lib.hid (to_close (CQ := (cqf W H a_l nl c_l a_s ns c_s a_f nf c_f)) hQ6 hS6 hR6 HU6.out (by omega) (RL6.out.weak (fun b hb => by omega)) (RA6.out.weak (fun b hb => by omega)) (RB6.out.weak (fun b hb => by omega)))
          refine Ol.past hK (by as_aux_lemma => kernel_rfl) _ _ ?_
          clear hK K
          refine Ol.way_done (by as_aux_lemma => kernel_rfl) ?_ _
          go_wp2_with fail
          go_meet
          exact ⟨q, a_l, a_s, a_f, c_l, c_s, c_f, rfl, by omega, HC_.out⟩
        · go_simp
          have hb3 := Ve.below_n1 z2 (.cells #[] 3)
          have hW3 := World.ownsRow_lit (e := 3) (size := 1) z2 #[] 0 (Nat.le_refl _) (by unfold maxLen; omega) rfl
          obtain ⟨z3, hz3_⟩ : ∃ y, z2.alloc (.cells #[] 3) = y := ⟨_, rfl⟩
          rw [hz3_] at hb3 hW3 ⊢
          clear hz3_
          have hs3 := hb3.size
          have HU3 := Lib.hid (HU2.out.trans (hb3.mono HU2.out.size))
          have hR3 := (hb3.block _ (lt_heap hR2)).trans hR2
          have B3 := Lib.hid (own_via (w' := z3) B2.out (fun r hr => by simp [Value.ownBlock] at hr; subst hr; exact hb3.block _ (by omega)))
          have hQ3 := (hb3.block _ (lt_heap hQ2)).trans hQ2
          obtain ⟨A_, hA_⟩ : ∃ x, x = z2.heap.size := ⟨_, rfl⟩
          rw [← hA_] at hW3 ⊢
          have A3 := Lib.hid hW3
          have hltA3 := (hW3.lt A_ rfl).2
          have haA : A_ ≤ z2.heap.size := by omega
          have hb_A : z2.heap.size ≤ A_ := by omega
          clear hW3 hA_
          refine Ol.keep hK _ _ ((hb3.block _ (lt_heap hS2)).trans hS2) (fun hS3 => ?_)
          clear hK K
          refine Ol.way_ready (rs := [2]) (by as_aux_lemma => kernel_rfl) (by simp) (Ol.Each.cons rfl (fun K hK => ?_) Ol.Each.nil)
          go_simp
          go_wp2_with (go_at_call 28; refine (tosheet_any W H al nl cl L _ (HL_.out.on HU3.out) bl).mono ?_; rintro e z4 ⟨⟨a_l, c_l, rfl, hla⟩, hb4⟩)
          have hs4 := hb4.size
          have HU4 := Lib.hid (HU3.out.trans (hb4.mono HU3.out.size))
          have hR4 := (hb4.block _ (lt_heap hR3)).trans hR3
          have B4 := Lib.hid (own_via (w' := z4) B3.out (fun r hr => by simp [Value.ownBlock] at hr; subst hr; exact hb4.block _ (by omega)))
          have hQ4 := (hb4.block _ (lt_heap hQ3)).trans hQ3
          have A4 := Lib.hid (own_via (w' := z4) A3.out (fun r hr => by simp [Value.ownBlock] at hr; subst hr; exact hb4.block _ (by omega)))
          have RL4 := Lib.hid (RwP.weak (P' := fun b => z3.heap.size ≤ b ∧ b < z4.heap.size) (hla.lt (by decide)) (fun b hb => hb))
          clear hla
          refine Ol.keep hK _ _ ((hb4.block _ (lt_heap hS3)).trans hS3) (fun hS4 => ?_)
          clear hK K
          refine Ol.way_ready (rs := [6]) (by as_aux_lemma => kernel_rfl) (by simp) (Ol.Each.cons rfl (fun K hK => ?_) Ol.Each.nil)
          refine app_int ji jz0 jz1 jz2 A_ A4.out HU4.out (by have := HU4.out.size; omega) ax cx S (HS_.out.on HU4.out) KS.out bs ⟨rfl, rfl⟩ ⟨rfl, rfl⟩ ?_
          intro a_s c_s z5 hgrow hs5 HU5 hRR
          have hR5 := (hgrow.block _ (lt_heap hR4) (by simp; omega)).trans hR4
          have B5 := Lib.hid (own_via (w' := z5) B4.out (fun r hr => by simp [Value.ownBlock] at hr; subst hr; exact hgrow.block _ (by omega) (by simp; omega)))
          have hQ5 := (hgrow.block _ (lt_heap hQ4) (by simp; omega)).trans hQ4
          have RL5 := Lib.hid (RL4.out.keep (fun b hb => hgrow.block b (by omega) (by simp; omega)))
          have RA5 := Lib.hid hRR
          clear hRR
          refine Ol.keep hK _ _ ((hgrow.block _ (lt_heap hS4) (by simp; omega)).trans hS4) (fun hS5 => ?_)
          clear hK K
          refine Ol.way_ready (rs := [10]) (by as_aux_lemma => kernel_rfl) (by simp) (Ol.Each.cons rfl (fun K hK => ?_) Ol.Each.nil)
          refine app_int ji jz0 jz1 jz2 B_ B5.out HU5.out (by have := HU5.out.size; omega) af cf F (HF_.out.on HU5.out) KF.out bf ⟨rfl, rfl⟩ ⟨rfl, rfl⟩ ?_
          intro a_f c_f z6 hgrow hs6 HU6 hRR
          have hR6 := (hgrow.block _ (lt_heap hR5) (by simp; omega)).trans hR5
          have hQ6 := (hgrow.block _ (lt_heap hQ5) (by simp; omega)).trans hQ5
          have RL6 := Lib.hid (RL5.out.keep (fun b hb => hgrow.block b (by omega) (by simp; omega)))
          have RA6 := Lib.hid (RA5.out.keep (fun b hb => hgrow.block b (by omega) (by simp; omega)))
          have RB6 := Lib.hid hRR
          clear hRR
          refine Ol.keep hK _ _ ((hgrow.block _ (lt_heap hS5) (by simp; omega)).trans hS5) (fun hS6 => ?_)
          clear hK K
          refine Ol.way_plain (i := 11) (v := ?_) rfl (by as_aux_lemma => kernel_rfl) (by as_aux_lemma => kernel_rfl) (by as_aux_lemma => kernel_rfl) (fun _ _ _ h => h) (by decide) (Or.inl ⟨by kernel_rfl, by (intro wz _; go_simp; try with_reducible rfl)⟩) (Ol.on hS6) ?_
          go_simp
          refine Ol.way_ready (rs := [13]) (by as_aux_lemma => kernel_rfl) (by simp) (Ol.Each.cons rfl (fun K hK => ?_) Ol.Each.nil)
          refine step_store_row rfl 40 (.tmp 3) (.tmp 21) rfl _ (cqf W H a_l nl c_l a_s ns c_s a_f nf c_f) q 40 hQ6 rfl (by first | rfl | (go_simp; done) | (go_simp; rfl)) (by as_aux_lemma => kernel_rfl) rfl (by simp [Value.oneCell']) ?_
          have HC_ := Lib.hid (to_close (CQ := (cqf W H a_l nl c_l a_s ns c_s a_f nf c_f)) hQ6 hS6 hR6 HU6.out (by omega) (RL6.out.weak (fun b hb => by omega)) (RA6.out.weak (fun b hb => by omega)) (RB6.out.weak (fun b hb => by omega)))
          refine Ol.past hK (by as_aux_lemma => kernel_rfl) _ _ ?_
          clear hK K
          refine Ol.way_done (by as_aux_lemma => kernel_rfl) ?_ _
          go_wp2_with fail
          go_meet
          exact ⟨q, a_l, a_s, a_f, c_l, c_s, c_f, rfl, by omega, HC_.out⟩
    · go_simp
      have hb1 := Ve.below_n1 z0 ZFo
      have hN := heap_alloc_last z0 ZFo
      obtain ⟨z1, hz1_⟩ : ∃ y, z0.alloc ZFo = y := ⟨_, rfl⟩
      rw [hz1_] at hb1 hN ⊢
      clear hz1_
      have hs1 := hb1.size
      have HU1 := Lib.hid (HU0.out.trans (hb1.mono HU0.out.size))
      have hR1 := (hb1.block _ (lt_heap hR0)).trans hR0
      obtain ⟨q, hq⟩ : ∃ q, q = z0.heap.size := ⟨_, rfl⟩
      rw [← hq] at hN ⊢
      have hQ1 := hN
      have hltq1 := lt_heap hN
      have hqa : q ≤ z0.heap.size := by omega
      have hqb : z0.heap.size ≤ q := by omega
      clear hN hq
      refine Ol.keep hK _ _ ((hb1.block _ (lt_heap hS0)).trans hS0) (fun hS1 => ?_)
      clear hK K
      refine Ol.way_ready (rs := [2, 3, 7]) (by as_aux_lemma => kernel_rfl) (by simp) (Ol.Each.cons rfl (fun K hK => ?_) (Ol.Each.cons rfl (fun K hK => ?_) (Ol.Each.cons rfl (fun K hK => ?_) Ol.Each.nil)))
      · go_simp
        go_wp2_with (go_at_call 28; refine (tosheet_any W H al nl cl L _ (HL_.out.on HU1.out) bl).mono ?_; rintro e z2 ⟨⟨a_l, c_l, rfl, hla⟩, hb2⟩)
        have hs2 := hb2.size
        have HU2 := Lib.hid (HU1.out.trans (hb2.mono HU1.out.size))
        have hR2 := (hb2.block _ (lt_heap hR1)).trans hR1
        have hQ2 := (hb2.block _ (lt_heap hQ1)).trans hQ1
        have RL2 := Lib.hid (RwP.weak (P' := fun b => z1.heap.size ≤ b ∧ b < z2.heap.size) (hla.lt (by decide)) (fun b hb => hb))
        clear hla
        refine Ol.keep hK _ _ ((hb2.block _ (lt_heap hS1)).trans hS1) (fun hS2 => ?_)
        clear hK K
        refine Ol.way_ready (rs := [3, 7]) (by as_aux_lemma => kernel_rfl) (by simp) (Ol.Each.cons rfl (fun K hK => ?_) (Ol.Each.cons rfl (fun K hK => ?_) Ol.Each.nil))
        · go_simp
          have hb3 := Ve.below_n1 z2 (.cells #[] 3)
          have hW3 := World.ownsRow_lit (e := 3) (size := 1) z2 #[] 0 (Nat.le_refl _) (by unfold maxLen; omega) rfl
          obtain ⟨z3, hz3_⟩ : ∃ y, z2.alloc (.cells #[] 3) = y := ⟨_, rfl⟩
          rw [hz3_] at hb3 hW3 ⊢
          clear hz3_
          have hs3 := hb3.size
          have HU3 := Lib.hid (HU2.out.trans (hb3.mono HU2.out.size))
          have hR3 := (hb3.block _ (lt_heap hR2)).trans hR2
          have hQ3 := (hb3.block _ (lt_heap hQ2)).trans hQ2
          have RL3 := Lib.hid (RL2.out.keep (fun b hb => hb3.block b (by omega)))
          obtain ⟨A_, hA_⟩ : ∃ x, x = z2.heap.size := ⟨_, rfl⟩
          rw [← hA_] at hW3 ⊢
          have A3 := Lib.hid hW3
          have hltA3 := (hW3.lt A_ rfl).2
          have haA : A_ ≤ z2.heap.size := by omega
          have hb_A : z2.heap.size ≤ A_ := by omega
          clear hW3 hA_
          refine Ol.keep hK _ _ ((hb3.block _ (lt_heap hS2)).trans hS2) (fun hS3 => ?_)
          clear hK K
          refine Ol.way_ready (rs := [6, 7]) (by as_aux_lemma => kernel_rfl) (by simp) (Ol.Each.cons rfl (fun K hK => ?_) (Ol.Each.cons rfl (fun K hK => ?_) Ol.Each.nil))
          · refine app_int ji jz0 jz1 jz2 A_ A3.out HU3.out (by have := HU3.out.size; omega) ax cx S (HS_.out.on HU3.out) KS.out bs ⟨rfl, rfl⟩ ⟨rfl, rfl⟩ ?_
            intro a_s c_s z4 hgrow hs4 HU4 hRR
            have hR4 := (hgrow.block _ (lt_heap hR3) (by simp; omega)).trans hR3
            have hQ4 := (hgrow.block _ (lt_heap hQ3) (by simp; omega)).trans hQ3
            have RL4 := Lib.hid (RL3.out.keep (fun b hb => hgrow.block b (by omega) (by simp; omega)))
            have RA4 := Lib.hid hRR
            clear hRR
            refine Ol.keep hK _ _ ((hgrow.block _ (lt_heap hS3) (by simp; omega)).trans hS3) (fun hS4 => ?_)
            clear hK K
            refine Ol.way_ready (rs := [7]) (by as_aux_lemma => kernel_rfl) (by simp) (Ol.Each.cons rfl (fun K hK => ?_) Ol.Each.nil)
            go_simp
            have hb5 := Ve.below_n1 z4 (.cells #[] 3)
            have hW5 := World.ownsRow_lit (e := 3) (size := 1) z4 #[] 0 (Nat.le_refl _) (by unfold maxLen; omega) rfl
            obtain ⟨z5, hz5_⟩ : ∃ y, z4.alloc (.cells #[] 3) = y := ⟨_, rfl⟩
            rw [hz5_] at hb5 hW5 ⊢
            clear hz5_
            have hs5 := hb5.size
            have HU5 := Lib.hid (HU4.out.trans (hb5.mono HU4.out.size))
            have hR5 := (hb5.block _ (lt_heap hR4)).trans hR4
            have hQ5 := (hb5.block _ (lt_heap hQ4)).trans hQ4
            have RL5 := Lib.hid (RL4.out.keep (fun b hb => hb5.block b (by omega)))
            have RA5 := Lib.hid (RA4.out.keep (fun b hb => hb5.block b (by omega)))
            obtain ⟨B_, hB_⟩ : ∃ x, x = z4.heap.size := ⟨_, rfl⟩
            rw [← hB_] at hW5 ⊢
            have B5 := Lib.hid hW5
            have hltB5 := (hW5.lt B_ rfl).2
            have haB : B_ ≤ z4.heap.size := by omega
            have hb_B : z4.heap.size ≤ B_ := by omega
            clear hW5 hB_
            refine Ol.keep hK _ _ ((hb5.block _ (lt_heap hS4)).trans hS4) (fun hS5 => ?_)
            clear hK K
            refine Ol.way_ready (rs := [10]) (by as_aux_lemma => kernel_rfl) (by simp) (Ol.Each.cons rfl (fun K hK => ?_) Ol.Each.nil)
            refine app_int ji jz0 jz1 jz2 B_ B5.out HU5.out (by have := HU5.out.size; omega) af cf F (HF_.out.on HU5.out) KF.out bf ⟨rfl, rfl⟩ ⟨rfl, rfl⟩ ?_
            intro a_f c_f z6 hgrow hs6 HU6 hRR
            have hR6 := (hgrow.block _ (lt_heap hR5) (by simp; omega)).trans hR5
            have hQ6 := (hgrow.block _ (lt_heap hQ5) (by simp; omega)).trans hQ5
            have RL6 := Lib.hid (RL5.out.keep (fun b hb => hgrow.block b (by omega) (by simp; omega)))
            have RA6 := Lib.hid (RA5.out.keep (fun b hb => hgrow.block b (by omega) (by simp; omega)))
            have RB6 := Lib.hid hRR
            clear hRR
            refine Ol.keep hK _ _ ((hgrow.block _ (lt_heap hS5) (by simp; omega)).trans hS5) (fun hS6 => ?_)
            clear hK K
            refine Ol.way_plain (i := 11) (v := ?_) rfl (by as_aux_lemma => kernel_rfl) (by as_aux_lemma => kernel_rfl) (by as_aux_lemma => kernel_rfl) (fun _ _ _ h => h) (by decide) (Or.inl ⟨by kernel_rfl, by (intro wz _; go_simp; try with_reducible rfl)⟩) (Ol.on hS6) ?_
            go_simp
            refine Ol.way_ready (rs := [13]) (by as_aux_lemma => kernel_rfl) (by simp) (Ol.Each.cons rfl (fun K hK => ?_) Ol.Each.nil)
            refine step_store_row rfl 40 (.tmp 3) (.tmp 21) rfl _ (cqf W H a_l nl c_l a_s ns c_s a_f nf c_f) q 40 hQ6 rfl (by first | rfl | (go_simp; done) | (go_simp; rfl)) (by as_aux_lemma => kernel_rfl) rfl (by simp [Value.oneCell']) ?_
            have HC_ := Lib.hid (to_close (CQ := (cqf W H a_l nl c_l a_s ns c_s a_f nf c_f)) hQ6 hS6 hR6 HU6.out (by omega) (RL6.out.weak (fun b hb => by omega)) (RA6.out.weak (fun b hb => by omega)) (RB6.out.weak (fun b hb => by omega)))
            refine Ol.past hK (by as_aux_lemma => kernel_rfl) _ _ ?_
            clear hK K
            refine Ol.way_done (by as_aux_lemma => kernel_rfl) ?_ _
            go_wp2_with fail
            go_meet
            exact ⟨q, a_l, a_s, a_f, c_l, c_s, c_f, rfl, by omega, HC_.out⟩
          · go_simp
            have hb4 := Ve.below_n1 z3 (.cells #[] 3)
            have hW4 := World.ownsRow_lit (e := 3) (size := 1) z3 #[] 0 (Nat.le_refl _) (by unfold maxLen; omega) rfl
            obtain ⟨z4, hz4_⟩ : ∃ y, z3.alloc (.cells #[] 3) = y := ⟨_, rfl⟩
            rw [hz4_] at hb4 hW4 ⊢
            clear hz4_
            have hs4 := hb4.size
            have HU4 := Lib.hid (HU3.out.trans (hb4.mono HU3.out.size))
            have hR4 := (hb4.block _ (lt_heap hR3)).trans hR3
            have hQ4 := (hb4.block _ (lt_heap hQ3)).trans hQ3
            have RL4 := Lib.hid (RL3.out.keep (fun b hb => hb4.block b (by omega)))
            have A4 := Lib.hid (own_via (w' := z4) A3.out (fun r hr => by simp [Value.ownBlock] at hr; subst hr; exact hb4.block _ (by omega)))
            obtain ⟨B_, hB_⟩ : ∃ x, x = z3.heap.size := ⟨_, rfl⟩
            rw [← hB_] at hW4 ⊢
            have B4 := Lib.hid hW4
            have hltB4 := (hW4.lt B_ rfl).2
            have haB : B_ ≤ z3.heap.size := by omega
            have hb_B : z3.heap.size ≤ B_ := by omega
            clear hW4 hB_
            refine Ol.keep hK _ _ ((hb4.block _ (lt_heap hS3)).trans hS3) (fun hS4 => ?_)
            clear hK K
            refine Ol.way_ready (rs := [6]) (by as_aux_lemma => kernel_rfl) (by simp) (Ol.Each.cons rfl (fun K hK => ?_) Ol.Each.nil)
            refine app_int ji jz0 jz1 jz2 A_ A4.out HU4.out (by have := HU4.out.size; omega) ax cx S (HS_.out.on HU4.out) KS.out bs ⟨rfl, rfl⟩ ⟨rfl, rfl⟩ ?_
            intro a_s c_s z5 hgrow hs5 HU5 hRR
            have hR5 := (hgrow.block _ (lt_heap hR4) (by simp; omega)).trans hR4
            have hQ5 := (hgrow.block _ (lt_heap hQ4) (by simp; omega)).trans hQ4
            have RL5 := Lib.hid (RL4.out.keep (fun b hb => hgrow.block b (by omega) (by simp; omega)))
            have B5 := Lib.hid (own_via (w' := z5) B4.out (fun r hr => by simp [Value.ownBlock] at hr; subst hr; exact hgrow.block _ (by omega) (by simp; omega)))
            have RA5 := Lib.hid hRR
            clear hRR
            refine Ol.keep hK _ _ ((hgrow.block _ (lt_heap hS4) (by simp; omega)).trans hS4) (fun hS5 => ?_)
            clear hK K
            refine Ol.way_ready (rs := [10]) (by as_aux_lemma => kernel_rfl) (by simp) (Ol.Each.cons rfl (fun K hK => ?_) Ol.Each.nil)
            refine app_int ji jz0 jz1 jz2 B_ B5.out HU5.out (by have := HU5.out.size; omega) af cf F (HF_.out.on HU5.out) KF.out bf ⟨rfl, rfl⟩ ⟨rfl, rfl⟩ ?_
            intro a_f c_f z6 hgrow hs6 HU6 hRR
            have hR6 := (hgrow.block _ (lt_heap hR5) (by simp; omega)).trans hR5
            have hQ6 := (hgrow.block _ (lt_heap hQ5) (by simp; omega)).trans hQ5
            have RL6 := Lib.hid (RL5.out.keep (fun b hb => hgrow.block b (by omega) (by simp; omega)))
            have RA6 := Lib.hid (RA5.out.keep (fun b hb => hgrow.block b (by omega) (by simp; omega)))
            have RB6 := Lib.hid hRR
            clear hRR
            refine Ol.keep hK _ _ ((hgrow.block _ (lt_heap hS5) (by simp; omega)).trans hS5) (fun hS6 => ?_)
            clear hK K
            refine Ol.way_plain (i := 11) (v := ?_) rfl (by as_aux_lemma => kernel_rfl) (by as_aux_lemma => kernel_rfl) (by as_aux_lemma => kernel_rfl) (fun _ _ _ h => h) (by decide) (Or.inl ⟨by kernel_rfl, by (intro wz _; go_simp; try with_reducible rfl)⟩) (Ol.on hS6) ?_
            go_simp
            refine Ol.way_ready (rs := [13]) (by as_aux_lemma => kernel_rfl) (by simp) (Ol.Each.cons rfl (fun K hK => ?_) Ol.Each.nil)
            refine step_store_row rfl 40 (.tmp 3) (.tmp 21) rfl _ (cqf W H a_l nl c_l a_s ns c_s a_f nf c_f) q 40 hQ6 rfl (by first | rfl | (go_simp; done) | (go_simp; rfl)) (by as_aux_lemma => kernel_rfl) rfl (by simp [Value.oneCell']) ?_
            have HC_ := Lib.hid (to_close (CQ := (cqf W H a_l nl c_l a_s ns c_s a_f nf c_f)) hQ6 hS6 hR6 HU6.out (by omega) (RL6.out.weak (fun b hb => by omega)) (RA6.out.weak (fun b hb => by omega)) (RB6.out.weak (fun b hb => by omega)))
            refine Ol.past hK (by as_aux_lemma => kernel_rfl) _ _ ?_
            clear hK K
            refine Ol.way_done (by as_aux_lemma => kernel_rfl) ?_ _
            go_wp2_with fail
            go_meet
            exact ⟨q, a_l, a_s, a_f, c_l, c_s, c_f, rfl, by omega, HC_.out⟩
        · go_simp
          have hb3 := Ve.below_n1 z2 (.cells #[] 3)
          have hW3 := World.ownsRow_lit (e := 3) (size := 1) z2 #[] 0 (Nat.le_refl _) (by unfold maxLen; omega) rfl
          obtain ⟨z3, hz3_⟩ : ∃ y, z2.alloc (.cells #[] 3) = y := ⟨_, rfl⟩
          rw [hz3_] at hb3 hW3 ⊢
          clear hz3_
          have hs3 := hb3.size
          have HU3 := Lib.hid (HU2.out.trans (hb3.mono HU2.out.size))
          have hR3 := (hb3.block _ (lt_heap hR2)).trans hR2
          have hQ3 := (hb3.block _ (lt_heap hQ2)).trans hQ2
          have RL3 := Lib.hid (RL2.out.keep (fun b hb => hb3.block b (by omega)))
          obtain ⟨B_, hB_⟩ : ∃ x, x = z2.heap.size := ⟨_, rfl⟩
          rw [← hB_] at hW3 ⊢
          have B3 := Lib.hid hW3
          have hltB3 := (hW3.lt B_ rfl).2
          have haB : B_ ≤ z2.heap.size := by omega
          have hb_B : z2.heap.size ≤ B_ := by omega
          clear hW3 hB_
          refine Ol.keep hK _ _ ((hb3.block _ (lt_heap hS2)).trans hS2) (fun hS3 => ?_)
          clear hK K
          refine Ol.way_ready (rs := [3]) (by as_aux_lemma => kernel_rfl) (by simp) (Ol.Each.cons rfl (fun K hK => ?_) Ol.Each.nil)
          go_simp
          have hb4 := Ve.below_n1 z3 (.cells #[] 3)
          have hW4 := World.ownsRow_lit (e := 3) (size := 1) z3 #[] 0 (Nat.le_refl _) (by unfold maxLen; omega) rfl
          obtain ⟨z4, hz4_⟩ : ∃ y, z3.alloc (.cells #[] 3) = y := ⟨_, rfl⟩
          rw [hz4_] at hb4 hW4 ⊢
          clear hz4_
          have hs4 := hb4.size
          have HU4 := Lib.hid (HU3.out.trans (hb4.mono HU3.out.size))
          have hR4 := (hb4.block _ (lt_heap hR3)).trans hR3
          have hQ4 := (hb4.block _ (lt_heap hQ3)).trans hQ3
          have RL4 := Lib.hid (RL3.out.keep (fun b hb => hb4.block b (by omega)))
          have B4 := Lib.hid (own_via (w' := z4) B3.out (fun r hr => by simp [Value.ownBlock] at hr; subst hr; exact hb4.block _ (by omega)))
          obtain ⟨A_, hA_⟩ : ∃ x, x = z3.heap.size := ⟨_, rfl⟩
          rw [← hA_] at hW4 ⊢
          have A4 := Lib.hid hW4
          have hltA4 := (hW4.lt A_ rfl).2
          have haA : A_ ≤ z3.heap.size := by omega
          have hb_A : z3.heap.size ≤ A_ := by omega
          clear hW4 hA_
          refine Ol.keep hK _ _ ((hb4.block _ (lt_heap hS3)).trans hS3) (fun hS4 => ?_)
          clear hK K
          refine Ol.way_ready (rs := [6]) (by as_aux_lemma => kernel_rfl) (by simp) (Ol.Each.cons rfl (fun K hK => ?_) Ol.Each.nil)
          refine app_int ji jz0 jz1 jz2 A_ A4.out HU4.out (by have := HU4.out.size; omega) ax cx S (HS_.out.on HU4.out) KS.out bs ⟨rfl, rfl⟩ ⟨rfl, rfl⟩ ?_
          intro a_s c_s z5 hgrow hs5 HU5 hRR
          have hR5 := (hgrow.block _ (lt_heap hR4) (by simp; omega)).trans hR4
          have hQ5 := (hgrow.block _ (lt_heap hQ4) (by simp; omega)).trans hQ4
          have RL5 := Lib.hid (RL4.out.keep (fun b hb => hgrow.block b (by omega) (by simp; omega)))
          have B5 := Lib.hid (own_via (w' := z5) B4.out (fun r hr => by simp [Value.ownBlock] at hr; subst hr; exact hgrow.block _ (by omega) (by simp; omega)))
          have RA5 := Lib.hid hRR
          clear hRR
          refine Ol.keep hK _ _ ((hgrow.block _ (lt_heap hS4) (by simp; omega)).trans hS4) (fun hS5 => ?_)
          clear hK K
          refine Ol.way_ready (rs := [10]) (by as_aux_lemma => kernel_rfl) (by simp) (Ol.Each.cons rfl (fun K hK => ?_) Ol.Each.nil)
          refine app_int ji jz0 jz1 jz2 B_ B5.out HU5.out (by have := HU5.out.size; omega) af cf F (HF_.out.on HU5.out) KF.out bf ⟨rfl, rfl⟩ ⟨rfl, rfl⟩ ?_
          intro a_f c_f z6 hgrow hs6 HU6 hRR
          have hR6 := (hgrow.block _ (lt_heap hR5) (by simp; omega)).trans hR5
          have hQ6 := (hgrow.block _ (lt_heap hQ5) (by simp; omega)).trans hQ5
          have RL6 := Lib.hid (RL5.out.keep (fun b hb => hgrow.block b (by omega) (by simp; omega)))
          have RA6 := Lib.hid (RA5.out.keep (fun b hb => hgrow.block b (by omega) (by simp; omega)))
          have RB6 := Lib.hid hRR
          clear hRR
          refine Ol.keep hK _ _ ((hgrow.block _ (lt_heap hS5) (by simp; omega)).trans hS5) (fun hS6 => ?_)
          clear hK K
          refine Ol.way_plain (i := 11) (v := ?_) rfl (by as_aux_lemma => kernel_rfl) (by as_aux_lemma => kernel_rfl) (by as_aux_lemma => kernel_rfl) (fun _ _ _ h => h) (by decide) (Or.inl ⟨by kernel_rfl, by (intro wz _; go_simp; try with_reducible rfl)⟩) (Ol.on hS6) ?_
          go_simp
          refine Ol.way_ready (rs := [13]) (by as_aux_lemma => kernel_rfl) (by simp) (Ol.Each.cons rfl (fun K hK => ?_) Ol.Each.nil)
          refine step_store_row rfl 40 (.tmp 3) (.tmp 21) rfl _ (cqf W H a_l nl c_l a_s ns c_s a_f nf c_f) q 40 hQ6 rfl (by first | rfl | (go_simp; done) | (go_simp; rfl)) (by as_aux_lemma => kernel_rfl) rfl (by simp [Value.oneCell']) ?_
          have HC_ := Lib.hid (to_close (CQ := (cqf W H a_l nl c_l a_s ns c_s a_f nf c_f)) hQ6 hS6 hR6 HU6.out (by omega) (RL6.out.weak (fun b hb => by omega)) (RA6.out.weak (fun b hb => by omega)) (RB6.out.weak (fun b hb => by omega)))
          refine Ol.past hK (by as_aux_lemma => kernel_rfl) _ _ ?_
          clear hK K
          refine Ol.way_done (by as_aux_lemma => kernel_rfl) ?_ _
          go_wp2_with fail
          go_meet
          exact ⟨q, a_l, a_s, a_f, c_l, c_s, c_f, rfl, by omega, HC_.out⟩
      · go_simp
        have hb2 := Ve.below_n1 z1 (.cells #[] 3)
        have hW2 := World.ownsRow_lit (e := 3) (size := 1) z1 #[] 0 (Nat.le_refl _) (by unfold maxLen; omega) rfl
        obtain ⟨z2, hz2_⟩ : ∃ y, z1.alloc (.cells #[] 3) = y := ⟨_, rfl⟩
        rw [hz2_] at hb2 hW2 ⊢
        clear hz2_
        have hs2 := hb2.size
        have HU2 := Lib.hid (HU1.out.trans (hb2.mono HU1.out.size))
        have hR2 := (hb2.block _ (lt_heap hR1)).trans hR1
        have hQ2 := (hb2.block _ (lt_heap hQ1)).trans hQ1
        obtain ⟨A_, hA_⟩ : ∃ x, x = z1.heap.size := ⟨_, rfl⟩
        rw [← hA_] at hW2 ⊢
        have A2 := Lib.hid hW2
        have hltA2 := (hW2.lt A_ rfl).2
        have haA : A_ ≤ z1.heap.size := by omega
        have hb_A : z1.heap.size ≤ A_ := by omega
        clear hW2 hA_
        refine Ol.keep hK _ _ ((hb2.block _ (lt_heap hS1)).trans hS1) (fun hS2 => ?_)
        clear hK K
        refine Ol.way_ready (rs := [2, 7]) (by as_aux_lemma => kernel_rfl) (by simp) (Ol.Each.cons rfl (fun K hK => ?_) (Ol.Each.cons rfl (fun K hK => ?_) Ol.Each.nil))
        · go_simp
          go_wp2_with (go_at_call 28; refine (tosheet_any W H al nl cl L _ (HL_.out.on HU2.out) bl).mono ?_; rintro e z3 ⟨⟨a_l, c_l, rfl, hla⟩, hb3⟩)
          have hs3 := hb3.size
          have HU3 := Lib.hid (HU2.out.trans (hb3.mono HU2.out.size))
          have hR3 := (hb3.block _ (lt_heap hR2)).trans hR2
          have hQ3 := (hb3.block _ (lt_heap hQ2)).trans hQ2
          have A3 := Lib.hid (own_via (w' := z3) A2.out (fun r hr => by simp [Value.ownBlock] at hr; subst hr; exact hb3.block _ (by omega)))
          have RL3 := Lib.hid (RwP.weak (P' := fun b => z2.heap.size ≤ b ∧ b < z3.heap.size) (hla.lt (by decide)) (fun b hb => hb))
          clear hla
          refine Ol.keep hK _ _ ((hb3.block _ (lt_heap hS2)).trans hS2) (fun hS3 => ?_)
          clear hK K
          refine Ol.way_ready (rs := [6, 7]) (by as_aux_lemma => kernel_rfl) (by simp) (Ol.Each.cons rfl (fun K hK => ?_) (Ol.Each.cons rfl (fun K hK => ?_) Ol.Each.nil))
          · refine app_int ji jz0 jz1 jz2 A_ A3.out HU3.out (by have := HU3.out.size; omega) ax cx S (HS_.out.on HU3.out) KS.out bs ⟨rfl, rfl⟩ ⟨rfl, rfl⟩ ?_
            intro a_s c_s z4 hgrow hs4 HU4 hRR
            have hR4 := (hgrow.block _ (lt_heap hR3) (by simp; omega)).trans hR3
            have hQ4 := (hgrow.block _ (lt_heap hQ3) (by simp; omega)).trans hQ3
            have RL4 := Lib.hid (RL3.out.keep (fun b hb => hgrow.block b (by omega) (by simp; omega)))
            have RA4 := Lib.hid hRR
            clear hRR
            refine Ol.keep hK _ _ ((hgrow.block _ (lt_heap hS3) (by simp; omega)).trans hS3) (fun hS4 => ?_)
            clear hK K
            refine Ol.way_ready (rs := [7]) (by as_aux_lemma => kernel_rfl) (by simp) (Ol.Each.cons rfl (fun K hK => ?_) Ol.Each.nil)
            go_simp
            have hb5 := Ve.below_n1 z4 (.cells #[] 3)
            have hW5 := World.ownsRow_lit (e := 3) (size := 1) z4 #[] 0 (Nat.le_refl _) (by unfold maxLen; omega) rfl
            obtain ⟨z5, hz5_⟩ : ∃ y, z4.alloc (.cells #[] 3) = y := ⟨_, rfl⟩
            rw [hz5_] at hb5 hW5 ⊢
            clear hz5_
            have hs5 := hb5.size
            have HU5 := Lib.hid (HU4.out.trans (hb5.mono HU4.out.size))
            have hR5 := (hb5.block _ (lt_heap hR4)).trans hR4
            have hQ5 := (hb5.block _ (lt_heap hQ4)).trans hQ4
            have RL5 := Lib.hid (RL4.out.keep (fun b hb => hb5.block b (by omega)))
            have RA5 := Lib.hid (RA4.out.keep (fun b hb => hb5.block b (by omega)))
            obtain ⟨B_, hB_⟩ : ∃ x, x = z4.heap.size := ⟨_, rfl⟩
            rw [← hB_] at hW5 ⊢
            have B5 := Lib.hid hW5
            have hltB5 := (hW5.lt B_ rfl).2
            have haB : B_ ≤ z4.heap.size := by omega
            have hb_B : z4.heap.size ≤ B_ := by omega
            clear hW5 hB_
            refine Ol.keep hK _ _ ((hb5.block _ (lt_heap hS4)).trans hS4) (fun hS5 => ?_)
            clear hK K
            refine Ol.way_ready (rs := [10]) (by as_aux_lemma => kernel_rfl) (by simp) (Ol.Each.cons rfl (fun K hK => ?_) Ol.Each.nil)
            refine app_int ji jz0 jz1 jz2 B_ B5.out HU5.out (by have := HU5.out.size; omega) af cf F (HF_.out.on HU5.out) KF.out bf ⟨rfl, rfl⟩ ⟨rfl, rfl⟩ ?_
            intro a_f c_f z6 hgrow hs6 HU6 hRR
            have hR6 := (hgrow.block _ (lt_heap hR5) (by simp; omega)).trans hR5
            have hQ6 := (hgrow.block _ (lt_heap hQ5) (by simp; omega)).trans hQ5
            have RL6 := Lib.hid (RL5.out.keep (fun b hb => hgrow.block b (by omega) (by simp; omega)))
            have RA6 := Lib.hid (RA5.out.keep (fun b hb => hgrow.block b (by omega) (by simp; omega)))
            have RB6 := Lib.hid hRR
            clear hRR
            refine Ol.keep hK _ _ ((hgrow.block _ (lt_heap hS5) (by simp; omega)).trans hS5) (fun hS6 => ?_)
            clear hK K
            refine Ol.way_plain (i := 11) (v := ?_) rfl (by as_aux_lemma => kernel_rfl) (by as_aux_lemma => kernel_rfl) (by as_aux_lemma => kernel_rfl) (fun _ _ _ h => h) (by decide) (Or.inl ⟨by kernel_rfl, by (intro wz _; go_simp; try with_reducible rfl)⟩) (Ol.on hS6) ?_
            go_simp
            refine Ol.way_ready (rs := [13]) (by as_aux_lemma => kernel_rfl) (by simp) (Ol.Each.cons rfl (fun K hK => ?_) Ol.Each.nil)
            refine step_store_row rfl 40 (.tmp 3) (.tmp 21) rfl _ (cqf W H a_l nl c_l a_s ns c_s a_f nf c_f) q 40 hQ6 rfl (by first | rfl | (go_simp; done) | (go_simp; rfl)) (by as_aux_lemma => kernel_rfl) rfl (by simp [Value.oneCell']) ?_
            have HC_ := Lib.hid (to_close (CQ := (cqf W H a_l nl c_l a_s ns c_s a_f nf c_f)) hQ6 hS6 hR6 HU6.out (by omega) (RL6.out.weak (fun b hb => by omega)) (RA6.out.weak (fun b hb => by omega)) (RB6.out.weak (fun b hb => by omega)))
            refine Ol.past hK (by as_aux_lemma => kernel_rfl) _ _ ?_
            clear hK K
            refine Ol.way_done (by as_aux_lemma => kernel_rfl) ?_ _
            go_wp2_with fail
            go_meet
            exact ⟨q, a_l, a_s, a_f, c_l, c_s, c_f, rfl, by omega, HC_.out⟩
          · go_simp
            have hb4 := Ve.below_n1 z3 (.cells #[] 3)
            have hW4 := World.ownsRow_lit (e := 3) (size := 1) z3 #[] 0 (Nat.le_refl _) (by unfold maxLen; omega) rfl
            obtain ⟨z4, hz4_⟩ : ∃ y, z3.alloc (.cells #[] 3) = y := ⟨_, rfl⟩
            rw [hz4_] at hb4 hW4 ⊢
            clear hz4_
            have hs4 := hb4.size
            have HU4 := Lib.hid (HU3.out.trans (hb4.mono HU3.out.size))
            have hR4 := (hb4.block _ (lt_heap hR3)).trans hR3
            have hQ4 := (hb4.block _ (lt_heap hQ3)).trans hQ3
            have A4 := Lib.hid (own_via (w' := z4) A3.out (fun r hr => by simp [Value.ownBlock] at hr; subst hr; exact hb4.block _ (by omega)))
            have RL4 := Lib.hid (RL3.out.keep (fun b hb => hb4.block b (by omega)))
            obtain ⟨B_, hB_⟩ : ∃ x, x = z3.heap.size := ⟨_, rfl⟩
            rw [← hB_] at hW4 ⊢
            have B4 := Lib.hid hW4
            have hltB4 := (hW4.lt B_ rfl).2
            have haB : B_ ≤ z3.heap.size := by omega
            have hb_B : z3.heap.size ≤ B_ := by omega
            clear hW4 hB_
            refine Ol.keep hK _ _ ((hb4.block _ (lt_heap hS3)).trans hS3) (fun hS4 => ?_)
            clear hK K
            refine Ol.way_ready (rs := [6]) (by as_aux_lemma => kernel_rfl) (by simp) (Ol.Each.cons rfl (fun K hK => ?_) Ol.Each.nil)
            refine app_int ji jz0 jz1 jz2 A_ A4.out HU4.out (by have := HU4.out.size; omega) ax cx S (HS_.out.on HU4.out) KS.out bs ⟨rfl, rfl⟩ ⟨rfl, rfl⟩ ?_
            intro a_s c_s z5 hgrow hs5 HU5 hRR
            have hR5 := (hgrow.block _ (lt_heap hR4) (by simp; omega)).trans hR4
            have hQ5 := (hgrow.block _ (lt_heap hQ4) (by simp; omega)).trans hQ4
            have RL5 := Lib.hid (RL4.out.keep (fun b hb => hgrow.block b (by omega) (by simp; omega)))
            have B5 := Lib.hid (own_via (w' := z5) B4.out (fun r hr => by simp [Value.ownBlock] at hr; subst hr; exact hgrow.block _ (by omega) (by simp; omega)))
            have RA5 := Lib.hid hRR
            clear hRR
            refine Ol.keep hK _ _ ((hgrow.block _ (lt_heap hS4) (by simp; omega)).trans hS4) (fun hS5 => ?_)
            clear hK K
            refine Ol.way_ready (rs := [10]) (by as_aux_lemma => kernel_rfl) (by simp) (Ol.Each.cons rfl (fun K hK => ?_) Ol.Each.nil)
            refine app_int ji jz0 jz1 jz2 B_ B5.out HU5.out (by have := HU5.out.size; omega) af cf F (HF_.out.on HU5.out) KF.out bf ⟨rfl, rfl⟩ ⟨rfl, rfl⟩ ?_
            intro a_f c_f z6 hgrow hs6 HU6 hRR
            have hR6 := (hgrow.block _ (lt_heap hR5) (by simp; omega)).trans hR5
            have hQ6 := (hgrow.block _ (lt_heap hQ5) (by simp; omega)).trans hQ5
            have RL6 := Lib.hid (RL5.out.keep (fun b hb => hgrow.block b (by omega) (by simp; omega)))
            have RA6 := Lib.hid (RA5.out.keep (fun b hb => hgrow.block b (by omega) (by simp; omega)))
            have RB6 := Lib.hid hRR
            clear hRR
            refine Ol.keep hK _ _ ((hgrow.block _ (lt_heap hS5) (by simp; omega)).trans hS5) (fun hS6 => ?_)
            clear hK K
            refine Ol.way_plain (i := 11) (v := ?_) rfl (by as_aux_lemma => kernel_rfl) (by as_aux_lemma => kernel_rfl) (by as_aux_lemma => kernel_rfl) (fun _ _ _ h => h) (by decide) (Or.inl ⟨by kernel_rfl, by (intro wz _; go_simp; try with_reducible rfl)⟩) (Ol.on hS6) ?_
            go_simp
            refine Ol.way_ready (rs := [13]) (by as_aux_lemma => kernel_rfl) (by simp) (Ol.Each.cons rfl (fun K hK => ?_) Ol.Each.nil)
            refine step_store_row rfl 40 (.tmp 3) (.tmp 21) rfl _ (cqf W H a_l nl c_l a_s ns c_s a_f nf c_f) q 40 hQ6 rfl (by first | rfl | (go_simp; done) | (go_simp; rfl)) (by as_aux_lemma => kernel_rfl) rfl (by simp [Value.oneCell']) ?_
            have HC_ := Lib.hid (to_close (CQ := (cqf W H a_l nl c_l a_s ns c_s a_f nf c_f)) hQ6 hS6 hR6 HU6.out (by omega) (RL6.out.weak (fun b hb => by omega)) (RA6.out.weak (fun b hb => by omega)) (RB6.out.weak (fun b hb => by omega)))
            refine Ol.past hK (by as_aux_lemma => kernel_rfl) _ _ ?_
            clear hK K
            refine Ol.way_done (by as_aux_lemma => kernel_rfl) ?_ _
            go_wp2_with fail
            go_meet
            exact ⟨q, a_l, a_s, a_f, c_l, c_s, c_f, rfl, by omega, HC_.out⟩
        · go_simp
          have hb3 := Ve.below_n1 z2 (.cells #[] 3)
          have hW3 := World.ownsRow_lit (e := 3) (size := 1) z2 #[] 0 (Nat.le_refl _) (by unfold maxLen; omega) rfl
          obtain ⟨z3, hz3_⟩ : ∃ y, z2.alloc (.cells #[] 3) = y := ⟨_, rfl⟩
          rw [hz3_] at hb3 hW3 ⊢
          clear hz3_
          have hs3 := hb3.size
          have HU3 := Lib.hid (HU2.out.trans (hb3.mono HU2.out.size))
          have hR3 := (hb3.block _ (lt_heap hR2)).trans hR2
          have hQ3 := (hb3.block _ (lt_heap hQ2)).trans hQ2
          have A3 := Lib.hid (own_via (w' := z3) A2.out (fun r hr => by simp [Value.ownBlock] at hr; subst hr; exact hb3.block _ (by omega)))
          obtain ⟨B_, hB_⟩ : ∃ x, x = z2.heap.size := ⟨_, rfl⟩
          rw [← hB_] at hW3 ⊢
          have B3 := Lib.hid hW3
          have hltB3 := (hW3.lt B_ rfl).2
          have haB : B_ ≤ z2.heap.size := by omega
          have hb_B : z2.heap.size ≤ B_ := by omega
          clear hW3 hB_
          refine Ol.keep hK _ _ ((hb3.block _ (lt_heap hS2)).trans hS2) (fun hS3 => ?_)
          clear hK K
          refine Ol.way_ready (rs := [2]) (by as_aux_lemma => kernel_rfl) (by simp) (Ol.Each.cons rfl (fun K hK => ?_) Ol.Each.nil)
          go_simp
          go_wp2_with (go_at_call 28; refine (tosheet_any W H al nl cl L _ (HL_.out.on HU3.out) bl).mono ?_; rintro e z4 ⟨⟨a_l, c_l, rfl, hla⟩, hb4⟩)
          have hs4 := hb4.size
          have HU4 := Lib.hid (HU3.out.trans (hb4.mono HU3.out.size))
          have hR4 := (hb4.block _ (lt_heap hR3)).trans hR3
          have hQ4 := (hb4.block _ (lt_heap hQ3)).trans hQ3
          have A4 := Lib.hid (own_via (w' := z4) A3.out (fun r hr => by simp [Value.ownBlock] at hr; subst hr; exact hb4.block _ (by omega)))
          have B4 := Lib.hid (own_via (w' := z4) B3.out (fun r hr => by simp [Value.ownBlock] at hr; subst hr; exact hb4.block _ (by omega)))
          have RL4 := Lib.hid (RwP.weak (P' := fun b => z3.heap.size ≤ b ∧ b < z4.heap.size) (hla.lt (by decide)) (fun b hb => hb))
          clear hla
          refine Ol.keep hK _ _ ((hb4.block _ (lt_heap hS3)).trans hS3) (fun hS4 => ?_)
          clear hK K
          refine Ol.way_ready (rs := [6]) (by as_aux_lemma => kernel_rfl) (by simp) (Ol.Each.cons rfl (fun K hK => ?_) Ol.Each.nil)
          refine app_int ji jz0 jz1 jz2 A_ A4.out HU4.out (by have := HU4.out.size; omega) ax cx S (HS_.out.on HU4.out) KS.out bs ⟨rfl, rfl⟩ ⟨rfl, rfl⟩ ?_
          intro a_s c_s z5 hgrow hs5 HU5 hRR
          have hR5 := (hgrow.block _ (lt_heap hR4) (by simp; omega)).trans hR4
          have hQ5 := (hgrow.block _ (lt_heap hQ4) (by simp; omega)).trans hQ4
          have B5 := Lib.hid (own_via (w' := z5) B4.out (fun r hr => by simp [Value.ownBlock] at hr; subst hr; exact hgrow.block _ (by omega) (by simp; omega)))
          have RL5 := Lib.hid (RL4.out.keep (fun b hb => hgrow.block b (by omega) (by simp; omega)))
          have RA5 := Lib.hid hRR
          clear hRR
          refine Ol.keep hK _ _ ((hgrow.block _ (lt_heap hS4) (by simp; omega)).trans hS4) (fun hS5 => ?_)
          clear hK K
          refine Ol.way_ready (rs := [10]) (by as_aux_lemma => kernel_rfl) (by simp) (Ol.Each.cons rfl (fun K hK => ?_) Ol.Each.nil)
          refine app_int ji jz0 jz1 jz2 B_ B5.out HU5.out (by have := HU5.out.size; omega) af cf F (HF_.out.on HU5.out) KF.out bf ⟨rfl, rfl⟩ ⟨rfl, rfl⟩ ?_
          intro a_f c_f z6 hgrow hs6 HU6 hRR
          have hR6 := (hgrow.block _ (lt_heap hR5) (by simp; omega)).trans hR5
          have hQ6 := (hgrow.block _ (lt_heap hQ5) (by simp; omega)).trans hQ5
          have RL6 := Lib.hid (RL5.out.keep (fun b hb => hgrow.block b (by omega) (by simp; omega)))
          have RA6 := Lib.hid (RA5.out.keep (fun b hb => hgrow.block b (by omega) (by simp; omega)))
          have RB6 := Lib.hid hRR
          clear hRR
          refine Ol.keep hK _ _ ((hgrow.block _ (lt_heap hS5) (by simp; omega)).trans hS5) (fun hS6 => ?_)
          clear hK K
          refine Ol.way_plain (i := 11) (v := ?_) rfl (by as_aux_lemma => kernel_rfl) (by as_aux_lemma => kernel_rfl) (by as_aux_lemma => kernel_rfl) (fun _ _ _ h => h) (by decide) (Or.inl ⟨by kernel_rfl, by (intro wz _; go_simp; try with_reducible rfl)⟩) (Ol.on hS6) ?_
          go_simp
          refine Ol.way_ready (rs := [13]) (by as_aux_lemma => kernel_rfl) (by simp) (Ol.Each.cons rfl (fun K hK => ?_) Ol.Each.nil)
          refine step_store_row rfl 40 (.tmp 3) (.tmp 21) rfl _ (cqf W H a_l nl c_l a_s ns c_s a_f nf c_f) q 40 hQ6 rfl (by first | rfl | (go_simp; done) | (go_simp; rfl)) (by as_aux_lemma => kernel_rfl) rfl (by simp [Value.oneCell']) ?_
          have HC_ := Lib.hid (to_close (CQ := (cqf W H a_l nl c_l a_s ns c_s a_f nf c_f)) hQ6 hS6 hR6 HU6.out (by omega) (RL6.out.weak (fun b hb => by omega)) (RA6.out.weak (fun b hb => by omega)) (RB6.out.weak (fun b hb => by omega)))
          refine Ol.past hK (by as_aux_lemma => kernel_rfl) _ _ ?_
          clear hK K
          refine Ol.way_done (by as_aux_lemma => kernel_rfl) ?_ _
          go_wp2_with fail
          go_meet
          exact ⟨q, a_l, a_s, a_f, c_l, c_s, c_f, rfl, by omega, HC_.out⟩
      · go_simp
        have hb2 := Ve.below_n1 z1 (.cells #[] 3)
        have hW2 := World.ownsRow_lit (e := 3) (size := 1) z1 #[] 0 (Nat.le_refl _) (by unfold maxLen; omega) rfl
        obtain ⟨z2, hz2_⟩ : ∃ y, z1.alloc (.cells #[] 3) = y := ⟨_, rfl⟩
        rw [hz2_] at hb2 hW2 ⊢
        clear hz2_
        have hs2 := hb2.size
        have HU2 := Lib.hid (HU1.out.trans (hb2.mono HU1.out.size))
        have hR2 := (hb2.block _ (lt_heap hR1)).trans hR1
        have hQ2 := (hb2.block _ (lt_heap hQ1)).trans hQ1
        obtain ⟨B_, hB_⟩ : ∃ x, x = z1.heap.size := ⟨_, rfl⟩
        rw [← hB_] at hW2 ⊢
        have B2 := Lib.hid hW2
        have hltB2 := (hW2.lt B_ rfl).2
        have haB : B_ ≤ z1.heap.size := by omega
        have hb_B : z1.heap.size ≤ B_ := by omega
        clear hW2 hB_
        refine Ol.keep hK _ _ ((hb2.block _ (lt_heap hS1)).trans hS1) (fun hS2 => ?_)
        clear hK K
        refine Ol.way_ready (rs := [2, 3]) (by as_aux_lemma => kernel_rfl) (by simp) (Ol.Each.cons rfl (fun K hK => ?_) (Ol.Each.cons rfl (fun K hK => ?_) Ol.Each.nil))
        · go_simp
          go_wp2_with (go_at_call 28; refine (tosheet_any W H al nl cl L _ (HL_.out.on HU2.out) bl).mono ?_; rintro e z3 ⟨⟨a_l, c_l, rfl, hla⟩, hb3⟩)
          have hs3 := hb3.size
          have HU3 := Lib.hid (HU2.out.trans (hb3.mono HU2.out.size))
          have hR3 := (hb3.block _ (lt_heap hR2)).trans hR2
          have hQ3 := (hb3.block _ (lt_heap hQ2)).trans hQ2
          have B3 := Lib.hid (own_via (w' := z3) B2.out (fun r hr => by simp [Value.ownBlock] at hr; subst hr; exact hb3.block _ (by omega)))
          have RL3 := Lib.hid (RwP.weak (P' := fun b => z2.heap.size ≤ b ∧ b < z3.heap.size) (hla.lt (by decide)) (fun b hb => hb))
          clear hla
          refine Ol.keep hK _ _ ((hb3.block _ (lt_heap hS2)).trans hS2) (fun hS3 => ?_)
          clear hK K
          refine Ol.way_ready (rs := [3]) (by as_aux_lemma => kernel_rfl) (by simp) (Ol.Each.cons rfl (fun K hK => ?_) Ol.Each.nil)
          go_simp
          have hb4 := Ve.below_n1 z3 (.cells #[] 3)
          have hW4 := World.ownsRow_lit (e := 3) (size := 1) z3 #[] 0 (Nat.le_refl _) (by unfold maxLen; omega) rfl
          obtain ⟨z4, hz4_⟩ : ∃ y, z3.alloc (.cells #[] 3) = y := ⟨_, rfl⟩
          rw [hz4_] at hb4 hW4 ⊢
          clear hz4_
          have hs4 := hb4.size
          have HU4 := Lib.hid (HU3.out.trans (hb4.mono HU3.out.size))
          have hR4 := (hb4.block _ (lt_heap hR3)).trans hR3
          have hQ4 := (hb4.block _ (lt_heap hQ3)).trans hQ3
          have B4 := Lib.hid (own_via (w' := z4) B3.out (fun r hr => by simp [Value.ownBlock] at hr; subst hr; exact hb4.block _ (by omega)))
          have RL4 := Lib.hid (RL3.out.keep (fun b hb => hb4.block b (by omega)))
          obtain ⟨A_, hA_⟩ : ∃ x, x = z3.heap.size := ⟨_, rfl⟩
          rw [← hA_] at hW4 ⊢
          have A4 := Lib.hid hW4
          have hltA4 := (hW4.lt A_ rfl).2
          have haA : A_ ≤ z3.heap.size := by omega
          have hb_A : z3.heap.size ≤ A_ := by omega
          clear hW4 hA_
          refine Ol.keep hK _ _ ((hb4.block _ (lt_heap hS3)).trans hS3) (fun hS4 => ?_)
          clear hK K
          refine Ol.way_ready (rs := [6]) (by as_aux_lemma => kernel_rfl) (by simp) (Ol.Each.cons rfl (fun K hK => ?_) Ol.Each.nil)
          refine app_int ji jz0 jz1 jz2 A_ A4.out HU4.out (by have := HU4.out.size; omega) ax cx S (HS_.out.on HU4.out) KS.out bs ⟨rfl, rfl⟩ ⟨rfl, rfl⟩ ?_
          intro a_s c_s z5 hgrow hs5 HU5 hRR
          have hR5 := (hgrow.block _ (lt_heap hR4) (by simp; omega)).trans hR4
          have hQ5 := (hgrow.block _ (lt_heap hQ4) (by simp; omega)).trans hQ4
          have B5 := Lib.hid (own_via (w' := z5) B4.out (fun r hr => by simp [Value.ownBlock] at hr; subst hr; exact hgrow.block _ (by omega) (by simp; omega)))
          have RL5 := Lib.hid (RL4.out.keep (fun b hb => hgrow.block b (by omega) (by simp; omega)))
          have RA5 := Lib.hid hRR
          clear hRR
          refine Ol.keep hK _ _ ((hgrow.block _ (lt_heap hS4) (by simp; omega)).trans hS4) (fun hS5 => ?_)
          clear hK K
          refine Ol.way_ready (rs := [10]) (by as_aux_lemma => kernel_rfl) (by simp) (Ol.Each.cons rfl (fun K hK => ?_) Ol.Each.nil)
          refine app_int ji jz0 jz1 jz2 B_ B5.out HU5.out (by have := HU5.out.size; omega) af cf F (HF_.out.on HU5.out) KF.out bf ⟨rfl, rfl⟩ ⟨rfl, rfl⟩ ?_
          intro a_f c_f z6 hgrow hs6 HU6 hRR
          have hR6 := (hgrow.block _ (lt_heap hR5) (by simp; omega)).trans hR5
          have hQ6 := (hgrow.block _ (lt_heap hQ5) (by simp; omega)).trans hQ5
          have RL6 := Lib.hid (RL5.out.keep (fun b hb => hgrow.block b (by omega) (by simp; omega)))
          have RA6 := Lib.hid (RA5.out.keep (fun b hb => hgrow.block b (by omega) (by simp; omega)))
          have RB6 := Lib.hid hRR
          clear hRR
          refine Ol.keep hK _ _ ((hgrow.block _ (lt_heap hS5) (by simp; omega)).trans hS5) (fun hS6 => ?_)
          clear hK K
          refine Ol.way_plain (i := 11) (v := ?_) rfl (by as_aux_lemma => kernel_rfl) (by as_aux_lemma => kernel_rfl) (by as_aux_lemma => kernel_rfl) (fun _ _ _ h => h) (by decide) (Or.inl ⟨by kernel_rfl, by (intro wz _; go_simp; try with_reducible rfl)⟩) (Ol.on hS6) ?_
          go_simp
          refine Ol.way_ready (rs := [13]) (by as_aux_lemma => kernel_rfl) (by simp) (Ol.Each.cons rfl (fun K hK => ?_) Ol.Each.nil)
          refine step_store_row rfl 40 (.tmp 3) (.tmp 21) rfl _ (cqf W H a_l nl c_l a_s ns c_s a_f nf c_f) q 40 hQ6 rfl (by first | rfl | (go_simp; done) | (go_simp; rfl)) (by as_aux_lemma => kernel_rfl) rfl (by simp [Value.oneCell']) ?_
          have HC_ := Lib.hid (to_close (CQ := (cqf W H a_l nl c_l a_s ns c_s a_f nf c_f)) hQ6 hS6 hR6 HU6.out (by omega) (RL6.out.weak (fun b hb => by omega)) (RA6.out.weak (fun b hb => by omega)) (RB6.out.weak (fun b hb => by omega)))
          refine Ol.past hK (by as_aux_lemma => kernel_rfl) _ _ ?_
          clear hK K
          refine Ol.way_done (by as_aux_lemma => kernel_rfl) ?_ _
          go_wp2_with fail
          go_meet
          exact ⟨q, a_l, a_s, a_f, c_l, c_s, c_f, rfl, by omega, HC_.out⟩
        · go_simp
          have hb3 := Ve.below_n1 z2 (.cells #[] 3)
          have hW3 := World.ownsRow_lit (e := 3) (size := 1) z2 #[] 0 (Nat.le_refl _) (by unfold maxLen; omega) rfl
          obtain ⟨z3, hz3_⟩ : ∃ y, z2.alloc (.cells #[] 3) = y := ⟨_, rfl⟩
          rw [hz3_] at hb3 hW3 ⊢
          clear hz3_
          have hs3 := hb3.size
          have HU3 := Lib.hid (HU2.out.trans (hb3.mono HU2.out.size))
          have hR3 := (hb3.block _ (lt_heap hR2)).trans hR2
          have hQ3 := (hb3.block _ (lt_heap hQ2)).trans hQ2
          have B3 := Lib.hid (own_via (w' := z3) B2.out (fun r hr => by simp [Value.ownBlock] at hr; subst hr; exact hb3.block _ (by omega)))
          obtain ⟨A_, hA_⟩ : ∃ x, x = z2.heap.size := ⟨_, rfl⟩
          rw [← hA_] at hW3 ⊢
          have A3 := Lib.hid hW3
          have hltA3 := (hW3.lt A_ rfl).2
          have haA : A_ ≤ z2.heap.size := by omega
          have hb_A : z2.heap.size ≤ A_ := by omega
          clear hW3 hA_
          refine Ol.keep hK _ _ ((hb3.block _ (lt_heap hS2)).trans hS2) (fun hS3 => ?_)
          clear hK K
          refine Ol.way_ready (rs := [2]) (by as_aux_lemma => kernel_rfl) (by simp) (Ol.Each.cons rfl (fun K hK => ?_) Ol.Each.nil)
          go_simp
          go_wp2_with (go_at_call 28; refine (tosheet_any W H al nl cl L _ (HL_.out.on HU3.out) bl).mono ?_; rintro e z4 ⟨⟨a_l, c_l, rfl, hla⟩, hb4⟩)
          have hs4 := hb4.size
          have HU4 := Lib.hid (HU3.out.trans (hb4.mono HU3.out.size))
          have hR4 := (hb4.block _ (lt_heap hR3)).trans hR3
          have hQ4 := (hb4.block _ (lt_heap hQ3)).trans hQ3
          have B4 := Lib.hid (own_via (w' := z4) B3.out (fun r hr => by simp [Value.ownBlock] at hr; subst hr; exact hb4.block _ (by omega)))
          have A4 := Lib.hid (own_via (w' := z4) A3.out (fun r hr => by simp [Value.ownBlock] at hr; subst hr; exact hb4.block _ (by omega)))
          have RL4 := Lib.hid (RwP.weak (P' := fun b => z3.heap.size ≤ b ∧ b < z4.heap.size) (hla.lt (by decide)) (fun b hb => hb))
          clear hla
          refine Ol.keep hK _ _ ((hb4.block _ (lt_heap hS3)).trans hS3) (fun hS4 => ?_)
          clear hK K
          refine Ol.way_ready (rs := [6]) (by as_aux_lemma => kernel_rfl) (by simp) (Ol.Each.cons rfl (fun K hK => ?_) Ol.Each.nil)
          refine app_int ji jz0 jz1 jz2 A_ A4.out HU4.out (by have := HU4.out.size; omega) ax cx S (HS_.out.on HU4.out) KS.out bs ⟨rfl, rfl⟩ ⟨rfl, rfl⟩ ?_
          intro a_s c_s z5 hgrow hs5 HU5 hRR
          have hR5 := (hgrow.block _ (lt_heap hR4) (by simp; omega)).trans hR4
          have hQ5 := (hgrow.block _ (lt_heap hQ4) (by simp; omega)).trans hQ4
          have B5 := Lib.hid (own_via (w' := z5) B4.out (fun r hr => by simp [Value.ownBlock] at hr; subst hr; exact hgrow.block _ (by omega) (by simp; omega)))
          have RL5 := Lib.hid (RL4.out.keep (fun b hb => hgrow.block b (by omega) (by simp; omega)))
          have RA5 := Lib.hid hRR
          clear hRR
          refine Ol.keep hK _ _ ((hgrow.block _ (lt_heap hS4) (by simp; omega)).trans hS4) (fun hS5 => ?_)
          clear hK K
          refine Ol.way_ready (rs := [10]) (by as_aux_lemma => kernel_rfl) (by simp) (Ol.Each.cons rfl (fun K hK => ?_) Ol.Each.nil)
          refine app_int ji jz0 jz1 jz2 B_ B5.out HU5.out (by have := HU5.out.size; omega) af cf F (HF_.out.on HU5.out) KF.out bf ⟨rfl, rfl⟩ ⟨rfl, rfl⟩ ?_
          intro a_f c_f z6 hgrow hs6 HU6 hRR
          have hR6 := (hgrow.block _ (lt_heap hR5) (by simp; omega)).trans hR5
          have hQ6 := (hgrow.block _ (lt_heap hQ5) (by simp; omega)).trans hQ5
          have RL6 := Lib.hid (RL5.out.keep (fun b hb => hgrow.block b (by omega) (by simp; omega)))
          have RA6 := Lib.hid (RA5.out.keep (fun b hb => hgrow.block b (by omega) (by simp; omega)))
          have RB6 := Lib.hid hRR
          clear hRR
          refine Ol.keep hK _ _ ((hgrow.block _ (lt_heap hS5) (by simp; omega)).trans hS5) (fun hS6 => ?_)
          clear hK K
          refine Ol.way_plain (i := 11) (v := ?_) rfl (by as_aux_lemma => kernel_rfl) (by as_aux_lemma => kernel_rfl) (by as_aux_lemma => kernel_rfl) (fun _ _ _ h => h) (by decide) (Or.inl ⟨by kernel_rfl, by (intro wz _; go_simp; try with_reducible rfl)⟩) (Ol.on hS6) ?_
          go_simp
          refine Ol.way_ready (rs := [13]) (by as_aux_lemma => kernel_rfl) (by simp) (Ol.Each.cons rfl (fun K hK => ?_) Ol.Each.nil)
          refine step_store_row rfl 40 (.tmp 3) (.tmp 21) rfl _ (cqf W H a_l nl c_l a_s ns c_s a_f nf c_f) q 40 hQ6 rfl (by first | rfl | (go_simp; done) | (go_simp; rfl)) (by as_aux_lemma => kernel_rfl) rfl (by simp [Value.oneCell']) ?_
          have HC_ := Lib.hid (to_close (CQ := (cqf W H a_l nl c_l a_s ns c_s a_f nf c_f)) hQ6 hS6 hR6 HU6.out (by omega) (RL6.out.weak (fun b hb => by omega)) (RA6.out.weak (fun b hb => by omega)) (RB6.out.weak (fun b hb => by omega)))
          refine Ol.past hK (by as_aux_lemma => kernel_rfl) _ _ ?_
          clear hK K
          refine Ol.way_done (by as_aux_lemma => kernel_rfl) ?_ _
          go_wp2_with fail
          go_meet
          exact ⟨q, a_l, a_s, a_f, c_l, c_s, c_f, rfl, by omega, HC_.out⟩
  case rest =>
    obtain ⟨q, a_l, a_s, a_f, c_l, c_s, c_f, rfl, hqw, hrq, hrb, hrr, RL, RA, RB, HUc⟩ := hcut
    obtain ⟨y1, hwc⟩ : ∃ y : World, y = wc := ⟨_, rfl⟩
    rw [← hwc] at hrq hrb hrr RL RA RB HUc ⊢
    clear hwc
    have HU1 := HUc
    clear HUc HU0 hr0_0 hr0_1
    have hr1_0 := hrb
    have hr1_1 := hrr
    have hr1_2 := hrq
    clear hrb hrr hrq
    have RL1 := RL
    have RA1 := RA
    have RB1 := RB
    clear RL RA RB
    have hql := lt_heap hr1_2
    have c0_0 := cell_of_row _ _ 0 _ _ _ hr1_0
    have c0_1 := cell_of_row _ _ 1 _ _ _ hr1_0
    have c0_2 := cell_of_row _ _ 2 _ _ _ hr1_0
    have c0_3 := cell_of_row _ _ 3 _ _ _ hr1_0
    have c0_4 := cell_of_row _ _ 4 _ _ _ hr1_0
    have c0_5 := cell_of_row _ _ 5 _ _ _ hr1_0
    have c0_6 := cell_of_row _ _ 6 _ _ _ hr1_0
    have c0_7 := cell_of_row _ _ 7 _ _ _ hr1_0
    simp at c0_0 c0_1 c0_2 c0_3 c0_4 c0_5 c0_6 c0_7
    go_upto_region 3 with fail
    obtain ⟨bd, hb_d⟩ : ∃ b, b = y1.heap.size := ⟨_, rfl⟩
    have hbqd : q < bd := by rw [hb_d]; exact lt_heap hr1_2
    have hbwd : w.heap.size ≤ bd := by rw [hb_d]; exact HU1.out.size
    have hbed : bd ≤ y1.heap.size := by omega
    have hbfd : y1.heap.size ≤ bd := by omega
    clear hb_d
    go_loopw [25] (fun i wr => ∃ (k : Nat) (v : Value), k ≤ nd ∧ i = .int .i64 k ∧ wr.heap[q]? = some (.cells #[.int .i64 W, .int .i64 H, .slice a_l nl c_l, v, .slice none 0 0, .slice none 0 0, .slice a_s ns c_s, .slice a_f nf c_f] 40 (0, 0)) ∧ Hid (wr.ownsRow bd 71 1 v k (flatc 1 D k)) ∧ Hid (Aw (fun z => z < bd ∧ z ≠ q) y1 wr)) (fun i _ => nd - (intOf i).toNat)
    case atStart => exact ⟨0, _, by omega, rfl, hr1_2, Lib.hid (by simpa [flatc] using World.ownsRow_nil _ _ _ _), Lib.hid (Aw.refl _ _)⟩
    case round =>
      obtain ⟨k, v, hk, rfl, hrq, HO, HA⟩ := hrel
      have hsz := HA.out.size
      by_cases hlt : k < nd
      · have hlt' : (k : Int) < nd := by omega
        have HBw := HU1.out.trans (aw_low HA.out (b := w.heap.size) (by omega) (by omega) (by omega))
        obtain ⟨sb, so, hsa, e0⟩ := (HD_.out.on HBw).at1 hlt
        subst hsa
        obtain ⟨x0, hx0⟩ : ∃ x, x = D (k) := ⟨_, rfl⟩
        rw [← hx0] at e0
        have HX := Lib.hid (show flatc 1 D (k + 1) = flatc 1 D k ++ [.int .i64 x0] by rw [flatc_step1, ← hx0])
        clear hx0 HBw
        obtain ⟨i0, hi, hz0, hz1, hz2⟩ := info_parts info_fix
        have hb2 := Ve.below_n1 wr (.cells #[.int .i64 x0] 71)
        have hN2 := heap_alloc_last wr (.cells #[.int .i64 x0] 71)
        have HO2 := Lib.hid (Ls.own_below HO.out hb2)
        have hs2 := hb2.size
        have cq_ := cell_of_row _ _ 3 _ _ _ hrq
        simp at cq_
        have hx1 := Lib.hid (World.news_of_block hN2)
        go_upto_region 5 with fail
        go_wp2_with (first | (at_builtin; refine wpList_append_lies _ rfl _ _ 37 rfl bd 71 i0 (.int .i64 0) 1 8 Tryd.underlying37 hi hz0 hz1 hz2 rfl (by decide) _ _ _ rfl HO2.out ⟨wr.heap.size, 0, none⟩ 1 1 [.int .i64 x0] rfl rfl hx1.out (by intro u hu; simp at hu; rcases hu with rfl; rfl) (by omega) ?c3 ?c4 ?c5 _ rfl ?_))
        case c3 => unfold maxLen; omega
        case c4 => omega
        case c5 => (first | omega | (simp; omega))
        intro g9 cg z3 hown hgrow hgk hlt2
        have hqo := fun r hr => (HO2.out.lt r hr).1
        have HA3 := Lib.hid ((HA.out.trans (Aw.of hb2)).step hgrow (fun r hr => by have := hqo r hr; omega))
        rw [← HX.out] at hown
        have hq2 := (hb2.block _ (lt_heap hrq)).trans hrq
        have hq3 := (hgrow.block q (lt_heap hq2) (fun e => by have := hqo _ e.symm; omega)).trans hq2
        have hs3 := hgrow.size
        have hqn : q ≠ g9 := by rcases hgk with h | h <;> first | omega | (have := hqo _ h; omega) | (simp at h; omega)
        clear cq_
        have p0 := cell_of_row _ _ 3 _ _ _ hq3
        simp at p0
        have fz : ∀ j, z3.frozen? ⟨q, j, none⟩ = false := fun j => by simp [World.frozen?, hq3]
        have hN : (z3.setCell ⟨q, 3, none⟩ (.slice (some ⟨g9, 0, none⟩) (k + 1) cg)).heap[q]? = some (.cells #[.int .i64 W, .int .i64 H, .slice a_l nl c_l, .slice (some ⟨g9, 0, none⟩) (k + 1) cg, .slice none 0 0, .slice none 0 0, .slice a_s ns c_s, .slice a_f nf c_f] 40 (0, 0)) := heap_setCell_same _ _ 3 _ _ _ hq3
        have HA4 := Lib.hid (HA3.out.set (b := q) (fun h => h.2 rfl) 3 (.slice (some ⟨g9, 0, none⟩) (k + 1) cg))
        have HO4 := Lib.hid (own_via (w' := (z3.setCell ⟨q, 3, none⟩ (.slice (some ⟨g9, 0, none⟩) (k + 1) cg))) hown (fun r hr => Below.heap_setCell _ _ _ _ (by simp [Value.ownBlock] at hr; show r ≠ q; omega)))
        go_wp2_with fail
        go_roundw
        case rel => exact ⟨k + 1, _, by omega, by go_num, hN, HO4, HA4⟩
        case measure => simp [intOf]; omega
      · have hge : ¬ (k : Int) < nd := by omega
        have hkn : nd = k := by omega
        subst hkn
        obtain ⟨a_d, c_d, hv⟩ := own_slice HO.out
        subst hv
        obtain ⟨y2, hwr⟩ : ∃ y : World, y = wr := ⟨_, rfl⟩
        rw [← hwr] at hrq HO HA hsz ⊢
        clear hwr
        have hr2_0 := (HA.out.block _ ⟨by have := lt_heap hr1_0; omega, by omega⟩ (lt_heap hr1_0)).trans hr1_0
        have hr2_1 := (HA.out.block _ ⟨by have := lt_heap hr1_1; omega, by omega⟩ (lt_heap hr1_1)).trans hr1_1
        have hr2_2 := hrq
        have HU2 := Lib.hid (HU1.out.trans (aw_low HA.out (b := w.heap.size) (by omega) (by omega) (by omega)))
        have RL2 := Lib.hid (RwX.aw RL1.out (by decide) HA.out (by omega))
        clear RL1
        have RA2 := Lib.hid (RwX.aw RA1.out (by decide) HA.out (by omega))
        clear RA1
        have RB2 := Lib.hid (RwX.aw RB1.out (by decide) HA.out (by omega))
        clear RB1
        have HF_d2 := Lib.hid (rwx_own (q := q) (lo := w.heap.size + 1) HO.out (by omega) (by omega))
        clear HO HA hrq hge hlt hk
        clear hr1_0 hr1_1 hr1_2 HU1
        have c0_0 := cell_of_row _ _ 0 _ _ _ hr2_0
        have c0_1 := cell_of_row _ _ 1 _ _ _ hr2_0
        have c0_2 := cell_of_row _ _ 2 _ _ _ hr2_0
        have c0_3 := cell_of_row _ _ 3 _ _ _ hr2_0
        have c0_4 := cell_of_row _ _ 4 _ _ _ hr2_0
        have c0_5 := cell_of_row _ _ 5 _ _ _ hr2_0
        have c0_6 := cell_of_row _ _ 6 _ _ _ hr2_0
        have c0_7 := cell_of_row _ _ 7 _ _ _ hr2_0
        simp at c0_0 c0_1 c0_2 c0_3 c0_4 c0_5 c0_6 c0_7
        go_upto_region 8 with fail
        obtain ⟨bn, hb_n⟩ : ∃ b, b = y2.heap.size := ⟨_, rfl⟩
        have hbqn : q < bn := by rw [hb_n]; exact lt_heap hr2_2
        have hbwn : w.heap.size ≤ bn := by rw [hb_n]; exact HU2.out.size
        have hben : bn ≤ y2.heap.size := by omega
        have hbfn : y2.heap.size ≤ bn := by omega
        clear hb_n
        go_loopw [39] (fun i wr => ∃ (k : Nat) (v : Value), k ≤ nn ∧ i = .int .i64 k ∧ wr.heap[q]? = some (.cells #[.int .i64 W, .int .i64 H, .slice a_l nl c_l, .slice a_d nd c_d, v, .slice none 0 0, .slice a_s ns c_s, .slice a_f nf c_f] 40 (0, 0)) ∧ Hid (wr.ownsRow bn 75 3 v k (flatc 3 N k)) ∧ Hid (Aw (fun z => z < bn ∧ z ≠ q) y2 wr)) (fun i _ => nn - (intOf i).toNat)
        case atStart => exact ⟨0, _, by omega, rfl, hr2_2, Lib.hid (by simpa [flatc] using World.ownsRow_nil _ _ _ _), Lib.hid (Aw.refl _ _)⟩
        case round =>
          obtain ⟨k, v, hk, rfl, hrq, HO, HA⟩ := hrel
          have hsz := HA.out.size
          by_cases hlt : k < nn
          · have hlt' : (k : Int) < nn := by omega
            have HBw := HU2.out.trans (aw_low HA.out (b := w.heap.size) (by omega) (by omega) (by omega))
            obtain ⟨sb, so, hsa, e0, e1, e2⟩ := (HN_.out.on HBw).at3 hlt
            subst hsa
            obtain ⟨x0, hx0⟩ : ∃ x, x = N (k * 3) := ⟨_, rfl⟩
            rw [← hx0] at e0
            obtain ⟨x1, hx1⟩ : ∃ x, x = N (k * 3 + 1) := ⟨_, rfl⟩
            rw [← hx1] at e1
            obtain ⟨x2, hx2⟩ : ∃ x, x = N (k * 3 + 2) := ⟨_, rfl⟩
            rw [← hx2] at e2
            have HX := Lib.hid (show flatc 3 N (k + 1) = flatc 3 N k ++ [.int .i64 x0, .int .i64 x1, .int .i64 x2] by rw [flatc_step3, ← hx0, ← hx1, ← hx2])
            clear hx0 hx1 hx2 HBw
            obtain ⟨i0, hi, hz0, hz1, hz2⟩ := info_parts info_vec
            go_wp2_with fail
            clear e0 e1 e2
            have hb0 := Ve.below_n1 wr (.cells #[.int .i64 x0, .int .i64 x1, .int .i64 x2] 73)
            have hN0 := heap_alloc_last wr (.cells #[.int .i64 x0, .int .i64 x1, .int .i64 x2] 73)
            have hq0 : (wr.alloc (.cells #[.int .i64 x0, .int .i64 x1, .int .i64 x2] 73)).heap[q]? = some (.cells #[.int .i64 W, .int .i64 H, .slice a_l nl c_l, .slice a_d nd c_d, v, .slice none 0 0, .slice a_s ns c_s, .slice a_f nf c_f] 40 (0, 0)) := (hb0.block _ (lt_heap hrq)).trans hrq
            refine Ol.way_drew (S := fun y => y.heap[q]? = some (.cells #[.int .i64 W, .int .i64 H, .slice a_l nl c_l, .slice a_d nd c_d, v, .slice none 0 0, .slice a_s ns c_s, .slice a_f nf c_f] 40 (0, 0)) ∧ y.heap[wr.heap.size]? = some (.cells #[.int .i64 x0, .int .i64 x1, .int .i64 x2] 73 (0, 0))) (stop := 7) (by kernel_rfl) (⟨hq0, hN0⟩) (fun hS0 => ?_)
            obtain ⟨z0, hz0_⟩ : ∃ y, (wr.alloc (.cells #[.int .i64 x0, .int .i64 x1, .int .i64 x2] 73)).drew = y := ⟨_, rfl⟩
            have HA0 := Lib.hid (show Aw (fun z => z < bn ∧ z ≠ q) y2 z0 by rw [← hz0_]; exact HA.out.trans (Aw.of hb0.drew))
            have HO0 := Lib.hid (show z0.ownsRow bn 75 3 v k (flatc 3 N k) by rw [← hz0_]; exact Ls.own_below HO.out hb0.drew)
            have hs0 : wr.heap.size ≤ z0.heap.size := by rw [← hz0_]; exact hb0.size
            rw [hz0_] at hS0 ⊢
            clear hz0_ hq0 hN0 hb0
            refine Ol.way_plain (i := 0) (v := ?_) rfl (by kernel_rfl) (by kernel_rfl) (by kernel_rfl) (fun _ _ _ h => h) (by decide) (Or.inl ⟨by kernel_rfl, by (intro wz _; go_simp; try with_reducible rfl)⟩) (Ol.on hS0) ?_
            go_simp
            refine Ol.way_take (i := 1) (v := ?_) rfl (by kernel_rfl) (by kernel_rfl) (by kernel_rfl) (fun _ _ _ h => h) (by decide) (by kernel_rfl) (by kernel_rfl) (Or.inl ⟨by kernel_rfl, by (intro wz hSz; have cq_ := cell_of_row _ _ 4 _ _ _ hSz.1; simp at cq_; go_simp; try with_reducible rfl)⟩) hS0 ?_
            go_simp
            refine Ol.way_take (i := 2) (v := ?_) rfl (by kernel_rfl) (by kernel_rfl) (by kernel_rfl) (fun _ _ _ h => h) (by decide) (by kernel_rfl) (by kernel_rfl) (Or.inl ⟨by kernel_rfl, by (intro wz hSz; have d0 := cell_of_row _ _ 0 _ _ _ hSz.2; have d1 := cell_of_row _ _ 1 _ _ _ hSz.2; have d2 := cell_of_row _ _ 2 _ _ _ hSz.2; simp at d0 d1 d2; go_simp; try with_reducible rfl)⟩) hS0 ?_
            go_simp
            refine Ol.way_ready (rs := [3]) (by kernel_rfl) (by simp) ?_
            refine Ol.Each.cons rfl (fun K hK => ?_) Ol.Each.nil
            go_simp
            go_wp2_with (go_at_call 29; refine (to_any x0 x1 x2 _).mono ?_; rintro e z1 ⟨rfl, hb1⟩)
            have HA1 := Lib.hid (HA0.out.trans (Aw.of hb1))
            have HO1 := Lib.hid (Ls.own_below HO0.out hb1)
            have hs1 := hb1.size
            refine Ol.keep hK _ _ (⟨(hb1.block _ (lt_heap hS0.1)).trans hS0.1, (hb1.block _ (lt_heap hS0.2)).trans hS0.2⟩) (fun hS1 => ?_)
            clear hK K
            refine Ol.way_ready (rs := [4]) (by kernel_rfl) (by simp) ?_
            refine Ol.Each.cons rfl (fun K hK => ?_) Ol.Each.nil
            go_simp
            have hb2 := Ve.below_n1 z1 (.cells #[.int .i64 x0, .int .i64 x1, .int .i64 x2] 75)
            have hN2 := heap_alloc_last z1 (.cells #[.int .i64 x0, .int .i64 x1, .int .i64 x2] 75)
            obtain ⟨z2, hz2_⟩ : ∃ y, z1.alloc (.cells #[.int .i64 x0, .int .i64 x1, .int .i64 x2] 75) = y := ⟨_, rfl⟩
            rw [hz2_] at hb2 hN2 ⊢
            clear hz2_
            have HA2 := Lib.hid (HA1.out.trans (Aw.of hb2))
            have HO2 := Lib.hid (Ls.own_below HO1.out hb2)
            have hs2 := hb2.size
            refine Ol.keep hK _ _ (⟨(hb2.block _ (lt_heap hS1.1)).trans hS1.1, (hb2.block _ (lt_heap hS1.2)).trans hS1.2⟩) (fun hS2 => ?_)
            clear hK K
            refine Ol.way_ready (rs := [5]) (by kernel_rfl) (by simp) ?_
            refine Ol.Each.cons rfl (fun K hK => ?_) Ol.Each.nil
            refine step_append_lies _ rfl _ _ 38 rfl bn 75 i0 (.agg #[.int .i64 0, .int .i64 0, .int .i64 0]) 3 24 Tryd.underlying38 hi hz0 hz1 hz2 rfl (by decide) _ _ _ rfl HO2.out ⟨z1.heap.size, 0, none⟩ 1 1 [.int .i64 x0, .int .i64 x1, .int .i64 x2] rfl rfl ?c1 ?c2 (by omega) ?c3 ?c4 ?c5 _ rfl ?_
            case c1 => exact World.news_of_block hN2
            case c2 => intro u hu; simp at hu; rcases hu with rfl | rfl | rfl <;> rfl
            case c3 => unfold maxLen; omega
            case c4 => omega
            case c5 => omega
            intro g9 cg z3 hown hgrow hgk hlt2
            have hqo := fun r hr => (HO2.out.lt r hr).1
            have HA3 := Lib.hid (HA2.out.step hgrow (fun r hr => by have := hqo r hr; omega))
            rw [← HX.out] at hown
            have hqn : q ≠ g9 := by rcases hgk with h | h <;> first | omega | (have := hqo _ h; omega)
            have hq3 := (hgrow.block q (lt_heap hS2.1) (fun e => by have := hqo _ e.symm; omega)).trans hS2.1
            have hs3 := hgrow.size
            refine Ol.keep hK _ _ (⟨hq3, (hgrow.block _ (lt_heap hS2.2) (fun e => by have := (HO.out.lt _ e.symm).2; omega)).trans hS2.2⟩) (fun hS3 => ?_)
            clear hK K
            refine Ol.way_plain (i := 6) (v := ?_) rfl (by kernel_rfl) (by kernel_rfl) (by kernel_rfl) (fun _ _ _ h => h) (by decide) (Or.inl ⟨by kernel_rfl, by (intro wz _; go_simp; try with_reducible rfl)⟩) (Ol.on hS3) ?_
            go_simp
            refine Ol.way_ready (rs := [7]) (by kernel_rfl) (by simp) ?_
            refine Ol.Each.cons rfl (fun K hK => ?_) Ol.Each.nil
            have p0 := cell_of_row _ _ 4 _ _ _ hq3
            simp at p0
            have fz : ∀ j, z3.frozen? ⟨q, j, none⟩ = false := fun j => by simp [World.frozen?, hq3]
            go_simp
            clear fz p0
            have hN : (z3.setCell ⟨q, 4, none⟩ (.slice (some ⟨g9, 0, none⟩) (k + 1) cg)).heap[q]? = some (.cells #[.int .i64 W, .int .i64 H, .slice a_l nl c_l, .slice a_d nd c_d, .slice (some ⟨g9, 0, none⟩) (k + 1) cg, .slice none 0 0, .slice a_s ns c_s, .slice a_f nf c_f] 40 (0, 0)) := heap_setCell_same _ _ 4 _ _ _ hq3
            have HA4 := Lib.hid (HA3.out.set (b := q) (fun h => h.2 rfl) 4 (.slice (some ⟨g9, 0, none⟩) (k + 1) cg))
            have HO4 := Lib.hid (own_via (w' := (z3.setCell ⟨q, 4, none⟩ (.slice (some ⟨g9, 0, none⟩) (k + 1) cg))) hown (fun r hr => Below.heap_setCell _ _ _ _ (by simp [Value.ownBlock] at hr; show r ≠ q; omega)))
            refine Ol.past hK (by kernel_rfl) _ _ ?_
            clear hK K
            refine Ol.way_done (by kernel_rfl) ?_ _
            go_wp2
            go_roundw
            case rel => exact ⟨k + 1, _, by omega, by go_num, hN, HO4, HA4⟩
            case measure => simp [intOf]; omega
          · have hge : ¬ (k : Int) < nn := by omega
            have hkn : nn = k := by omega
            subst hkn
            obtain ⟨a_n, c_n, hv⟩ := own_slice HO.out
            subst hv
            obtain ⟨y3, hwr⟩ : ∃ y : World, y = wr := ⟨_, rfl⟩
            rw [← hwr] at hrq HO HA hsz ⊢
            clear hwr
            have hr3_0 := (HA.out.block _ ⟨by have := lt_heap hr2_0; omega, by omega⟩ (lt_heap hr2_0)).trans hr2_0
            have hr3_1 := (HA.out.block _ ⟨by have := lt_heap hr2_1; omega, by omega⟩ (lt_heap hr2_1)).trans hr2_1
            have hr3_2 := hrq
            have HU3 := Lib.hid (HU2.out.trans (aw_low HA.out (b := w.heap.size) (by omega) (by omega) (by omega)))
            have RL3 := Lib.hid (RwX.aw RL2.out (by decide) HA.out (by omega))
            clear RL2
            have RA3 := Lib.hid (RwX.aw RA2.out (by decide) HA.out (by omega))
            clear RA2
            have RB3 := Lib.hid (RwX.aw RB2.out (by decide) HA.out (by omega))
            clear RB2
            have HF_d3 := Lib.hid (RwX.aw HF_d2.out (by decide) HA.out (by omega))
            clear HF_d2
            have HF_n3 := Lib.hid (rwx_own (q := q) (lo := w.heap.size + 1) HO.out (by omega) (by omega))
            clear HO HA hrq hge hlt hk
            clear hr2_0 hr2_1 hr2_2 HU2
            have c0_0 := cell_of_row _ _ 0 _ _ _ hr3_0
            have c0_1 := cell_of_row _ _ 1 _ _ _ hr3_0
            have c0_2 := cell_of_row _ _ 2 _ _ _ hr3_0
            have c0_3 := cell_of_row _ _ 3 _ _ _ hr3_0
            have c0_4 := cell_of_row _ _ 4 _ _ _ hr3_0
            have c0_5 := cell_of_row _ _ 5 _ _ _ hr3_0
            have c0_6 := cell_of_row _ _ 6 _ _ _ hr3_0
            have c0_7 := cell_of_row _ _ 7 _ _ _ hr3_0
            simp at c0_0 c0_1 c0_2 c0_3 c0_4 c0_5 c0_6 c0_7
            go_upto_region 13 with fail
            obtain ⟨bb, hb_b⟩ : ∃ b, b = y3.heap.size := ⟨_, rfl⟩
            have hbqb : q < bb := by rw [hb_b]; exact lt_heap hr3_2
            have hbwb : w.heap.size ≤ bb := by rw [hb_b]; exact HU3.out.size
            have hbeb : bb ≤ y3.heap.size := by omega
            have hbfb : y3.heap.size ≤ bb := by omega
            clear hb_b
            go_loopw [54] (fun i wr => ∃ (k : Nat) (v : Value), k ≤ nb ∧ i = .int .i64 k ∧ wr.heap[q]? = some (.cells #[.int .i64 W, .int .i64 H, .slice a_l nl c_l, .slice a_d nd c_d, .slice a_n nn c_n, v, .slice a_s ns c_s, .slice a_f nf c_f] 40 (0, 0)) ∧ Hid (wr.ownsRow bb 79 3 v k (flatc 3 B k)) ∧ Hid (Aw (fun z => z < bb ∧ z ≠ q) y3 wr)) (fun i _ => nb - (intOf i).toNat)
            case atStart => exact ⟨0, _, by omega, rfl, hr3_2, Lib.hid (by simpa [flatc] using World.ownsRow_nil _ _ _ _), Lib.hid (Aw.refl _ _)⟩
            case round =>
              obtain ⟨k, v, hk, rfl, hrq, HO, HA⟩ := hrel
              have hsz := HA.out.size
              by_cases hlt : k < nb
              · have hlt' : (k : Int) < nb := by omega
                have HBw := HU3.out.trans (aw_low HA.out (b := w.heap.size) (by omega) (by omega) (by omega))
                obtain ⟨sb, so, hsa, e0, e1, e2⟩ := (HB_.out.on HBw).at3 hlt
                subst hsa
                obtain ⟨x0, hx0⟩ : ∃ x, x = B (k * 3) := ⟨_, rfl⟩
                rw [← hx0] at e0
                obtain ⟨x1, hx1⟩ : ∃ x, x = B (k * 3 + 1) := ⟨_, rfl⟩
                rw [← hx1] at e1
                obtain ⟨x2, hx2⟩ : ∃ x, x = B (k * 3 + 2) := ⟨_, rfl⟩
                rw [← hx2] at e2
                have HX := Lib.hid (show flatc 3 B (k + 1) = flatc 3 B k ++ [.int .i64 x0, .int .i64 x1, .int .i64 x2] by rw [flatc_step3, ← hx0, ← hx1, ← hx2])
                clear hx0 hx1 hx2 HBw
                obtain ⟨i0, hi, hz0, hz1, hz2⟩ := info_parts info_hue
                go_wp2_with fail
                clear e0 e1 e2
                have hb0 := Ve.below_n1 wr (.cells #[.int .i64 x0, .int .i64 x1, .int .i64 x2] 77)
                have hN0 := heap_alloc_last wr (.cells #[.int .i64 x0, .int .i64 x1, .int .i64 x2] 77)
                have hq0 : (wr.alloc (.cells #[.int .i64 x0, .int .i64 x1, .int .i64 x2] 77)).heap[q]? = some (.cells #[.int .i64 W, .int .i64 H, .slice a_l nl c_l, .slice a_d nd c_d, .slice a_n nn c_n, v, .slice a_s ns c_s, .slice a_f nf c_f] 40 (0, 0)) := (hb0.block _ (lt_heap hrq)).trans hrq
                refine Ol.way_drew (S := fun y => y.heap[q]? = some (.cells #[.int .i64 W, .int .i64 H, .slice a_l nl c_l, .slice a_d nd c_d, .slice a_n nn c_n, v, .slice a_s ns c_s, .slice a_f nf c_f] 40 (0, 0)) ∧ y.heap[wr.heap.size]? = some (.cells #[.int .i64 x0, .int .i64 x1, .int .i64 x2] 77 (0, 0))) (stop := 7) (by kernel_rfl) (⟨hq0, hN0⟩) (fun hS0 => ?_)
                obtain ⟨z0, hz0_⟩ : ∃ y, (wr.alloc (.cells #[.int .i64 x0, .int .i64 x1, .int .i64 x2] 77)).drew = y := ⟨_, rfl⟩
                have HA0 := Lib.hid (show Aw (fun z => z < bb ∧ z ≠ q) y3 z0 by rw [← hz0_]; exact HA.out.trans (Aw.of hb0.drew))
                have HO0 := Lib.hid (show z0.ownsRow bb 79 3 v k (flatc 3 B k) by rw [← hz0_]; exact Ls.own_below HO.out hb0.drew)
                have hs0 : wr.heap.size ≤ z0.heap.size := by rw [← hz0_]; exact hb0.size
                rw [hz0_] at hS0 ⊢
                clear hz0_ hq0 hN0 hb0
                refine Ol.way_plain (i := 0) (v := ?_) rfl (by kernel_rfl) (by kernel_rfl) (by kernel_rfl) (fun _ _ _ h => h) (by decide) (Or.inl ⟨by kernel_rfl, by (intro wz _; go_simp; try with_reducible rfl)⟩) (Ol.on hS0) ?_
                go_simp
                refine Ol.way_take (i := 1) (v := ?_) rfl (by kernel_rfl) (by kernel_rfl) (by kernel_rfl) (fun _ _ _ h => h) (by decide) (by kernel_rfl) (by kernel_rfl) (Or.inl ⟨by kernel_rfl, by (intro wz hSz; have cq_ := cell_of_row _ _ 5 _ _ _ hSz.1; simp at cq_; go_simp; try with_reducible rfl)⟩) hS0 ?_
                go_simp
                refine Ol.way_take (i := 2) (v := ?_) rfl (by kernel_rfl) (by kernel_rfl) (by kernel_rfl) (fun _ _ _ h => h) (by decide) (by kernel_rfl) (by kernel_rfl) (Or.inl ⟨by kernel_rfl, by (intro wz hSz; have d0 := cell_of_row _ _ 0 _ _ _ hSz.2; have d1 := cell_of_row _ _ 1 _ _ _ hSz.2; have d2 := cell_of_row _ _ 2 _ _ _ hSz.2; simp at d0 d1 d2; go_simp; try with_reducible rfl)⟩) hS0 ?_
                go_simp
                refine Ol.way_ready (rs := [3]) (by kernel_rfl) (by simp) ?_
                refine Ol.Each.cons rfl (fun K hK => ?_) Ol.Each.nil
                go_simp
                go_wp2_with (go_at_call 30; refine (hto_any x0 x1 x2 _).mono ?_; rintro e z1 ⟨rfl, hb1⟩)
                have HA1 := Lib.hid (HA0.out.trans (Aw.of hb1))
                have HO1 := Lib.hid (Ls.own_below HO0.out hb1)
                have hs1 := hb1.size
                refine Ol.keep hK _ _ (⟨(hb1.block _ (lt_heap hS0.1)).trans hS0.1, (hb1.block _ (lt_heap hS0.2)).trans hS0.2⟩) (fun hS1 => ?_)
                clear hK K
                refine Ol.way_ready (rs := [4]) (by kernel_rfl) (by simp) ?_
                refine Ol.Each.cons rfl (fun K hK => ?_) Ol.Each.nil
                go_simp
                have hb2 := Ve.below_n1 z1 (.cells #[.int .i64 x0, .int .i64 x1, .int .i64 x2] 79)
                have hN2 := heap_alloc_last z1 (.cells #[.int .i64 x0, .int .i64 x1, .int .i64 x2] 79)
                obtain ⟨z2, hz2_⟩ : ∃ y, z1.alloc (.cells #[.int .i64 x0, .int .i64 x1, .int .i64 x2] 79) = y := ⟨_, rfl⟩
                rw [hz2_] at hb2 hN2 ⊢
                clear hz2_
                have HA2 := Lib.hid (HA1.out.trans (Aw.of hb2))
                have HO2 := Lib.hid (Ls.own_below HO1.out hb2)
                have hs2 := hb2.size
                refine Ol.keep hK _ _ (⟨(hb2.block _ (lt_heap hS1.1)).trans hS1.1, (hb2.block _ (lt_heap hS1.2)).trans hS1.2⟩) (fun hS2 => ?_)
                clear hK K
                refine Ol.way_ready (rs := [5]) (by kernel_rfl) (by simp) ?_
                refine Ol.Each.cons rfl (fun K hK => ?_) Ol.Each.nil
                refine step_append_lies _ rfl _ _ 34 rfl bb 79 i0 (.agg #[.int .i64 0, .int .i64 0, .int .i64 0]) 3 24 Tryd.underlying34 hi hz0 hz1 hz2 rfl (by decide) _ _ _ rfl HO2.out ⟨z1.heap.size, 0, none⟩ 1 1 [.int .i64 x0, .int .i64 x1, .int .i64 x2] rfl rfl ?c1 ?c2 (by omega) ?c3 ?c4 ?c5 _ rfl ?_
                case c1 => exact World.news_of_block hN2
                case c2 => intro u hu; simp at hu; rcases hu with rfl | rfl | rfl <;> rfl
                case c3 => unfold maxLen; omega
                case c4 => omega
                case c5 => omega
                intro g9 cg z3 hown hgrow hgk hlt2
                have hqo := fun r hr => (HO2.out.lt r hr).1
                have HA3 := Lib.hid (HA2.out.step hgrow (fun r hr => by have := hqo r hr; omega))
                rw [← HX.out] at hown
                have hqn : q ≠ g9 := by rcases hgk with h | h <;> first | omega | (have := hqo _ h; omega)
                have hq3 := (hgrow.block q (lt_heap hS2.1) (fun e => by have := hqo _ e.symm; omega)).trans hS2.1
                have hs3 := hgrow.size
                refine Ol.keep hK _ _ (⟨hq3, (hgrow.block _ (lt_heap hS2.2) (fun e => by have := (HO.out.lt _ e.symm).2; omega)).trans hS2.2⟩) (fun hS3 => ?_)
                clear hK K
                refine Ol.way_plain (i := 6) (v := ?_) rfl (by kernel_rfl) (by kernel_rfl) (by kernel_rfl) (fun _ _ _ h => h) (by decide) (Or.inl ⟨by kernel_rfl, by (intro wz _; go_simp; try with_reducible rfl)⟩) (Ol.on hS3) ?_
                go_simp
                refine Ol.way_ready (rs := [7]) (by kernel_rfl) (by simp) ?_
                refine Ol.Each.cons rfl (fun K hK => ?_) Ol.Each.nil
                have p0 := cell_of_row _ _ 5 _ _ _ hq3
                simp at p0
                have fz : ∀ j, z3.frozen? ⟨q, j, none⟩ = false := fun j => by simp [World.frozen?, hq3]
                go_simp
                clear fz p0
                have hN : (z3.setCell ⟨q, 5, none⟩ (.slice (some ⟨g9, 0, none⟩) (k + 1) cg)).heap[q]? = some (.cells #[.int .i64 W, .int .i64 H, .slice a_l nl c_l, .slice a_d nd c_d, .slice a_n nn c_n, .slice (some ⟨g9, 0, none⟩) (k + 1) cg, .slice a_s ns c_s, .slice a_f nf c_f] 40 (0, 0)) := heap_setCell_same _ _ 5 _ _ _ hq3
                have HA4 := Lib.hid (HA3.out.set (b := q) (fun h => h.2 rfl) 5 (.slice (some ⟨g9, 0, none⟩) (k + 1) cg))
                have HO4 := Lib.hid (own_via (w' := (z3.setCell ⟨q, 5, none⟩ (.slice (some ⟨g9, 0, none⟩) (k + 1) cg))) hown (fun r hr => Below.heap_setCell _ _ _ _ (by simp [Value.ownBlock] at hr; show r ≠ q; omega)))
                refine Ol.past hK (by kernel_rfl) _ _ ?_
                clear hK K
                refine Ol.way_done (by kernel_rfl) ?_ _
                go_wp2
                go_roundw
                case rel => exact ⟨k + 1, _, by omega, by go_num, hN, HO4, HA4⟩
                case measure => simp [intOf]; omega
              · have hge : ¬ (k : Int) < nb := by omega
                have hkn : nb = k := by omega
                subst hkn
                obtain ⟨a_b, c_b, hv⟩ := own_slice HO.out
                subst hv
                obtain ⟨y4, hwr⟩ : ∃ y : World, y = wr := ⟨_, rfl⟩
                rw [← hwr] at hrq HO HA hsz ⊢
                clear hwr
                have hr4_0 := (HA.out.block _ ⟨by have := lt_heap hr3_0; omega, by omega⟩ (lt_heap hr3_0)).trans hr3_0
                have hr4_1 := (HA.out.block _ ⟨by have := lt_heap hr3_1; omega, by omega⟩ (lt_heap hr3_1)).trans hr3_1
                have hr4_2 := hrq
                have HU4 := Lib.hid (HU3.out.trans (aw_low HA.out (b := w.heap.size) (by omega) (by omega) (by omega)))
                have RL4 := Lib.hid (RwX.aw RL3.out (by decide) HA.out (by omega))
                clear RL3
                have RA4 := Lib.hid (RwX.aw RA3.out (by decide) HA.out (by omega))
                clear RA3
                have RB4 := Lib.hid (RwX.aw RB3.out (by decide) HA.out (by omega))
                clear RB3
                have HF_d4 := Lib.hid (RwX.aw HF_d3.out (by decide) HA.out (by omega))
                clear HF_d3
                have HF_n4 := Lib.hid (RwX.aw HF_n3.out (by decide) HA.out (by omega))
                clear HF_n3
                have HF_b4 := Lib.hid (rwx_own (q := q) (lo := w.heap.size + 1) HO.out (by omega) (by omega))
                clear HO HA hrq hge hlt hk
                clear hr3_0 hr3_1 hr3_2 HU3
                have XFL := Lib.hid ((RwX.row RL4.out (r := w.heap.size + 1) (by omega) #[.int .i64 W, .int .i64 H, .slice a_l nl c_l, .slice a_d nd c_d, .slice a_n nn c_n, .slice a_b nb c_b, .slice a_s ns c_s, .slice a_f nf c_f]).weak (P' := fun b => w.heap.size ≤ b) (fun b hb => by have := hb.2; omega))
                have XFD := Lib.hid ((RwX.row HF_d4.out (r := w.heap.size + 1) (by omega) #[.int .i64 W, .int .i64 H, .slice a_l nl c_l, .slice a_d nd c_d, .slice a_n nn c_n, .slice a_b nb c_b, .slice a_s ns c_s, .slice a_f nf c_f]).weak (P' := fun b => w.heap.size ≤ b) (fun b hb => by have := hb.2; omega))
                have XFN := Lib.hid ((RwX.row HF_n4.out (r := w.heap.size + 1) (by omega) #[.int .i64 W, .int .i64 H, .slice a_l nl c_l, .slice a_d nd c_d, .slice a_n nn c_n, .slice a_b nb c_b, .slice a_s ns c_s, .slice a_f nf c_f]).weak (P' := fun b => w.heap.size ≤ b) (fun b hb => by have := hb.2; omega))
                have XFB := Lib.hid ((RwX.row HF_b4.out (r := w.heap.size + 1) (by omega) #[.int .i64 W, .int .i64 H, .slice a_l nl c_l, .slice a_d nd c_d, .slice a_n nn c_n, .slice a_b nb c_b, .slice a_s ns c_s, .slice a_f nf c_f]).weak (P' := fun b => w.heap.size ≤ b) (fun b hb => by have := hb.2; omega))
                have XFS := Lib.hid ((RwX.row RA4.out (r := w.heap.size + 1) (by omega) #[.int .i64 W, .int .i64 H, .slice a_l nl c_l, .slice a_d nd c_d, .slice a_n nn c_n, .slice a_b nb c_b, .slice a_s ns c_s, .slice a_f nf c_f]).weak (P' := fun b => w.heap.size ≤ b) (fun b hb => by have := hb.2; omega))
                have XFF := Lib.hid ((RwX.row RB4.out (r := w.heap.size + 1) (by omega) #[.int .i64 W, .int .i64 H, .slice a_l nl c_l, .slice a_d nd c_d, .slice a_n nn c_n, .slice a_b nb c_b, .slice a_s ns c_s, .slice a_f nf c_f]).weak (P' := fun b => w.heap.size ≤ b) (fun b hb => by have := hb.2; omega))
                have c2_0 := cell_of_row _ _ 0 _ _ _ hr4_2
                have c2_1 := cell_of_row _ _ 1 _ _ _ hr4_2
                have c2_2 := cell_of_row _ _ 2 _ _ _ hr4_2
                have c2_3 := cell_of_row _ _ 3 _ _ _ hr4_2
                have c2_4 := cell_of_row _ _ 4 _ _ _ hr4_2
                have c2_5 := cell_of_row _ _ 5 _ _ _ hr4_2
                have c2_6 := cell_of_row _ _ 6 _ _ _ hr4_2
                have c2_7 := cell_of_row _ _ 7 _ _ _ hr4_2
                simp at c2_0 c2_1 c2_2 c2_3 c2_4 c2_5 c2_6 c2_7
                have hHr := Lib.hid hr4_1
                have hHi := Lib.hid (show (Tryd.prog.info? 40).map (·.size) = some (#[.int .i64 W, .int .i64 H, .slice a_l nl c_l, .slice a_d nd c_d, .slice a_n nn c_n, .slice a_b nb c_b, .slice a_s ns c_s, .slice a_f nf c_f] : Array Value).size by kernel_rfl)
                have hHz := Lib.hid (show (#[.int .i64 0, .int .i64 0, .slice none 0 0, .slice none 0 0, .slice none 0 0, .slice none 0 0, .slice none 0 0, .slice none 0 0] : Array Value).size = (#[.int .i64 W, .int .i64 H, .slice a_l nl c_l, .slice a_d nd c_d, .slice a_n nn c_n, .slice a_b nb c_b, .slice a_s ns c_s, .slice a_f nf c_f] : Array Value).size from rfl)
                have hHo := Lib.hid (show (#[.int .i64 W, .int .i64 H, .slice a_l nl c_l, .slice a_d nd c_d, .slice a_n nn c_n, .slice a_b nb c_b, .slice a_s ns c_s, .slice a_f nf c_f] : Array Value).all (·.oneCell') = true by simp [Value.oneCell'])
                go_wp2_with (first | (refine Au.wpList_store_row rfl 40 (.tmp 2) (.tmp 66) rfl y4 #[.int .i64 0, .int .i64 0, .slice none 0 0, .slice none 0 0, .slice none 0 0, .slice none 0 0, .slice none 0 0, .slice none 0 0] #[.int .i64 W, .int .i64 H, .slice a_l nl c_l, .slice a_d nd c_d, .slice a_n nn c_n, .slice a_b nb c_b, .slice a_s ns c_s, .slice a_f nf c_f] (w.heap.size + 1) 40 hHr.out rfl rfl hHi.out hHz.out hHo.out ?_))
                clear c2_0 c2_1 c2_2 c2_3 c2_4 c2_5 c2_6 c2_7
                clear hHr hHi hHz hHo
                have hN := setRow_heap _ (w.heap.size + 1) _ #[.int .i64 W, .int .i64 H, .slice a_l nl c_l, .slice a_d nd c_d, .slice a_n nn c_n, .slice a_b nb c_b, .slice a_s ns c_s, .slice a_f nf c_f] _ _ hr4_1
                have hsz := HU4.out.size
                have HUx := below_setRow (g := w.heap.size + 1) HU4.out (by first | omega | (simp at *; omega)) #[.int .i64 W, .int .i64 H, .slice a_l nl c_l, .slice a_d nd c_d, .slice a_n nn c_n, .slice a_b nb c_b, .slice a_s ns c_s, .slice a_f nf c_f]
                have hO : ∀ kk, kk ≠ w.heap.size + 1 → (y4.setRow (w.heap.size + 1) #[.int .i64 W, .int .i64 H, .slice a_l nl c_l, .slice a_d nd c_d, .slice a_n nn c_n, .slice a_b nb c_b, .slice a_s ns c_s, .slice a_f nf c_f]).heap[kk]? = y4.heap[kk]? := fun kk hk => setRow_other _ _ _ _ hk
                obtain ⟨y5, hy5⟩ : ∃ y, y4.setRow (w.heap.size + 1) #[.int .i64 W, .int .i64 H, .slice a_l nl c_l, .slice a_d nd c_d, .slice a_n nn c_n, .slice a_b nb c_b, .slice a_s ns c_s, .slice a_f nf c_f] = y := ⟨_, rfl⟩
                rw [hy5] at hN HUx hO XFL XFD XFN XFB XFS XFF ⊢
                clear hy5 hsz
                have HU5 := Lib.hid HUx
                clear HUx
                have hr5_0 := (hO _ (by omega)).trans hr4_0
                have hr5_1 := hN
                have hr5_2 := (hO _ (by omega)).trans hr4_2
                clear hN hO
                clear hr4_0 hr4_1 hr4_2 HU4
                go_wp2
                exact bodyPost_ret (v := .agg #[.int .i64 W, .int .i64 H, .slice a_l nl c_l, .slice a_d nd c_d, .slice a_n nn c_n, .slice a_b nb c_b, .slice a_s ns c_s, .slice a_f nf c_f]) (results_row (t := 40) Tryd.results8 rfl hr5_1 Tryd.underlying40 rfl (by kernel_rfl)) rfl ⟨⟨⟨a_l, c_l, a_d, c_d, a_n, c_n, a_b, c_b, a_s, c_s, a_f, c_f⟩, rfl, ⟨XFL.out, XFD.out, XFN.out, XFB.out, XFS.out, XFF.out⟩⟩, HU5.out⟩

theorem to_film_q (f : Flm) (p : Pl) (w : World) (h : FAt w f p) (bl : f.nl * 24 ≤ 140737488351232) (bd : f.nd * 8 ≤ 140737488351232) (bn : f.nn * 24 ≤ 140737488351232) (bb : f.nb * 24 ≤ 140737488351232) (bs : f.ns * 8 ≤ 140737488351232) (bf : f.nf * 8 ≤ 140737488351232) (ks : p.ax = none → f.ns = 0 ∧ p.cx = 0) (kf : p.af = none → f.nf = 0 ∧ p.cf = 0) :
    Calls Tryd.prog 8 #[.agg (FC f p)] w fun e' w' => (∃ p' : Pl, e' = .returned (.agg (FC f p')) ∧ FAtQ (fun b => w.heap.size ≤ b) w' f p') ∧ Below w.heap.size w w' := by
  obtain ⟨W, H, nl, nd, nn, nb, ns, nf, L, D, N, B, S, F⟩ := f
  obtain ⟨al, cl, ad, cd, an, cn, ab, cb, ax, cx, af, cf⟩ := p
  obtain ⟨h1, h2, h3, h4, h5, h6⟩ := h
  exact to_letters W H al ad an ab ax af cl cd cn cb cx cf nl nd nn nb ns nf L D N B S F w h1 h2 h3 h4 h5 h6 bl bd bn bb bs bf ks kf

theorem to_film (f : Flm) (p : Pl) (w : World) (h : FAt w f p) (bl : f.nl * 24 ≤ 140737488351232) (bd : f.nd * 8 ≤ 140737488351232) (bn : f.nn * 24 ≤ 140737488351232) (bb : f.nb * 24 ≤ 140737488351232) (bs : f.ns * 8 ≤ 140737488351232) (bf : f.nf * 8 ≤ 140737488351232) (ks : p.ax = none → f.ns = 0 ∧ p.cx = 0) (kf : p.af = none → f.nf = 0 ∧ p.cf = 0) :
    Calls Tryd.prog 8 #[.agg (FC f p)] w fun e' w' => (∃ p' : Pl, e' = .returned (.agg (FC f p')) ∧ FAt w' f p') ∧ Below w.heap.size w w' :=
  (to_film_q f p w h bl bd bn bb bs bf ks kf).mono fun e w' ⟨⟨p', h1, h2⟩, h3⟩ => ⟨⟨p', h1, h2.fat⟩, h3⟩

end Go.Proofs.YtcohehekkeeeoaaDoor.Fm
