/- Layer 25: the program's Order, made with a goto; Check. -/
import Derived.Test.YtndpidmbfdpiaaaDoorK23
import Derived.Test.YtndpidmbfdpiaaaDoorK24
import Derived.ScopeJumps
import Derived.WalkMore
namespace Go.Proofs.YtndpidmbfdpiaaaDoor.Pn
open Go Go.RowKit Go.Shelf Go.Proofs Go.Proofs.YtndpidmbfdpiaaaDoor Go.Proofs.YtndpidmbfdpiaaaDoor.Au Go.Proofs.YtndpidmbfdpiaaaDoor.Re
set_option linter.unusedVariables false
set_option linter.unusedSimpArgs false

def lenOf : Value → Nat | .slice _ k _ => k | _ => 0
def ordL (L : List (List Int)) : List Int := if chk L = 0 then ord L L.length else []
theorem infoB : (Tryd.prog.info? 4).map (fun i => (i.zero, i.size, i.bytes)) = some (some (.bool false), 1, 1) := by kernel_rfl

theorem row_did {w : World} {g n : Nat} {T : TypeId} {l : List Int} {m : Nat} (h : w.rowIs g T n (fun i => .bool (has l (i : Int)))) : (w.setCell ⟨g, m, none⟩ (.bool true)).rowIs g T n (fun i => .bool (has (l ++ [(m : Int)]) (i : Int))) :=
  (h.set m (.bool true)).congr fun i _ => by
    rw [has_append]
    by_cases e : i = m
    · subst e; simp
    · rw [if_neg e]
      have : ((m : Int) == (i : Int)) = false := by simpa using (by omega : (m : Int) ≠ (i : Int))
      rw [this, Bool.or_false]
theorem own_other {w : World} {d base : Nat} {v : Value} {n s : Nat} {e : TypeId} {xs : List Value} (h : w.ownsRow base e s v n xs) (hd : d < base) (j : Nat) (u : Value) : (w.setCell ⟨d, j, none⟩ u).ownsRow base e s v n xs := by
  refine ⟨h.1, ?_⟩
  rcases h.2 with hn | ⟨g, cap, cur, h1, h2, h3, h4⟩
  · exact .inl hn
  · exact .inr ⟨g, cap, cur, h1, h2, (Below.heap_setCell _ _ _ _ (by show g ≠ d; omega)).trans h3, h4⟩
theorem row_grown {w w' : World} {d n : Nat} {T : TypeId} {f : Nat → Value} {o : Obj} {r : Option Nat} (h : w.rowIs d T n f) (hg : (w.alloc o).grownBy w' r) (hne : ∀ q, r = some q → d ≠ q) : w'.rowIs d T n f := by
  have h1 := h.alloc o
  exact h1.of_block (hg.block d h1.lt (fun e => hne d e.symm rfl))

set_option maxHeartbeats 8000000 in
set_option maxRecDepth 100000 in
theorem order_any (a : Option Addr) (c n : Nat) (L : List (List Int)) (w : World) (hn : n = L.length) (hP : PAt w a n L) :
    Calls Tryd.prog 19 #[.slice a n c] w fun e w' => (∃ v, e = .returned (.tuple #[v, .int .i64 (chk L)]) ∧ w'.ownsRow w.heap.size 3 1 v (ordL L).length (iv (ordL L))) ∧ Below w.heap.size w w' := by
  have HP := Lib.hid hP
  have HN := Lib.hid hn
  have hnb := hP.2.1
  have hnm := named_any a c n L w hn hP
  clear hP hn
  by_cases h0 : named L = 0
  · rw [h0] at hnm
    have H0 := Lib.hid h0
    clear h0
    have hn256 : n ≤ 256 := by
      have h := H0.out
      unfold named at h
      rw [← HN.out] at h
      split at h
      · cases h
      · omega
    obtain ⟨i0, hi, hz0, hz1, hz2⟩ := info_parts infoN
    have hmk := fun w => run_make_row' (P := Tryd.prog) 78 4 (.bool false) 1 Tryd.underlying78 infoB rfl .i64 .i64 n (by omega) (by omega) w
    go_enter Tryd.func19, Tryd.ntmps19
    go_wp2_with fail
    refine wp_scope_jumps 0 (fun a' w' => ∃ (k d : Nat) (la : Option Addr) (lc : Nat) (u7 u8 u9 u10 u11 u12 u13 u14 u15 u16 u17 u18 u19 u20 u21 u22 u23 u24 u25 u26 u27 u28 u29 u30 u31 u32 u33 u34 u35 u36 : Value), a' = { tmps := #[.slice a n c, undef, .slice none 0 0, .int .i64 0, .int .i64 0, .slice la k lc, .slice (some ⟨d, 0, none⟩) n n, u7, u8, u9, u10, u11, u12, u13, u14, u15, u16, u17, u18, u19, u20, u21, u22, u23, u24, u25, u26, u27, u28, u29, u30, u31, u32, u33, u34, u35, u36], defers := [] } ∧ k ≤ n ∧ Hid (w.heap.size ≤ d) ∧ Hid (k = (ord L k).length) ∧ Hid (Below w.heap.size w w') ∧ Hid (w'.ownsRow (d + 1) 3 1 (.slice la k lc) k (iv (ord L k))) ∧ Hid (w'.rowIs d 4 n (fun i => .bool (has (ord L k) (i : Int))))) (fun a' _ => n - lenOf (a'.tmps.getD 5 undef)) rfl ?_ ?_
    · go_wp2_with (go_at_call 34; refine hnm.mono ?_; rintro e y1 ⟨rfl, hb1⟩)
      have hb3 := Ve.below_n1 y1 (.cells (madeCells #[.bool false] n) 4)
      have hri := World.rowIs_made y1 (.bool false) n 4
      obtain ⟨y3, hy3⟩ : ∃ y, y1.alloc (.cells (madeCells #[.bool false] n) 4) = y := ⟨_, rfl⟩
      obtain ⟨d, hg⟩ : ∃ q, q = y1.heap.size := ⟨_, rfl⟩
      rw [hy3] at hb3 hri ⊢
      rw [← hg] at hri ⊢
      have HG := Lib.hid (show w.heap.size ≤ d by have := hb1.size; omega)
      have HB := Lib.hid (hb1.trans (hb3.mono hb1.size))
      have HD := Lib.hid (show y3.rowIs d 4 n (fun i => .bool (has (ord L 0) (i : Int))) from hri)
      have HL := Lib.hid (show 0 = (ord L 0).length from rfl)
      have HO := Lib.hid (show y3.ownsRow (d + 1) 3 1 (.slice none 0 0) 0 (iv (ord L 0)) from World.ownsRow_nil _ _ _ _)
      clear hb3 hy3 hri hg hb1 hmk
      go_step3
      have hsz := HB.out.size
      have hdl := HD.out.lt
      have hgd := HG.out
      have hcall : Calls Tryd.prog 35 #[.slice a n c, .slice (some ⟨d, 0, none⟩) n n] y3 fun e w' => e = .returned (firstV (first L (ord L 0))) ∧ Below y3.heap.size y3 w' :=
        first_any a c d n L (ord L 0) 4 y3 HN.out (HP.out.on HB.out) (ok_ord L 0) HD.out
      cases hf : first L (ord L 0) with
      | some q =>
        have hq := (first_some hf).1
        rw [← HN.out] at hq
        have hq' : (q : Int) < n := by omega
        have hkn : 0 < n := by
          rcases Nat.lt_or_ge 0 n with h | h
          · exact h
          · have h1 := ok_full (ok_ord L 0) (by rw [← HL.out, ← HN.out]; omega)
            rw [h1] at hf
            cases hf
        have HX := Lib.hid (ord_next hf)
        rw [hf] at hcall
        simp only [firstV] at hcall
        go_upto_region 8 with (go_at_call 35; refine hcall.mono ?_; rintro e y1 ⟨rfl, hb1⟩)
        have HD1 := Lib.hid (HD.out.of_block (hb1.block d hdl))
        have HO1 := Lib.hid (Ls.own_below HO.out hb1)
        have HB1 := Lib.hid (HB.out.trans (hb1.mono hsz))
        have hs1 := hb1.size
        have hcq := HD1.out.cell hq
        have hfq := HD1.out.frozen q
        clear hb1
        go_upto_region 9 with fail
        clear hcq hfq
        have HD2 := Lib.hid (row_did HD1.out (m := q))
        have HO2 := Lib.hid (own_other HO1.out (Nat.lt_succ_self d) q (.bool true))
        have HB2 := Lib.hid (HB1.out.setCell (p := ⟨d, q, none⟩) hgd (.bool true))
        obtain ⟨y2, hy2⟩ : ∃ y, y1.setCell ⟨d, q, none⟩ (.bool true) = y := ⟨_, rfl⟩
        rw [hy2] at HD2 HO2 HB2 ⊢
        clear hy2
        rw [← HX.out] at HD2
        have hsz2 := HB2.out.size
        have hdl2 := HD2.out.lt
        have HI1 := Lib.hid (HO2.out.alloc (.cells #[.int .i64 (q : Int)] 3))
        have HV := Lib.hid (iv_one1 (q : Int) y2 y2.heap.size rfl)
        go_wp2_with (at_builtin; refine wpList_append_own _ rfl _ _ 47 rfl (d + 1) 3 i0 (.int .i64 0) 1 8 Tryd.underlying47 hi hz0 hz1 hz2 rfl (by decide) _ _ _ rfl HI1.out ⟨y2.heap.size, 0, none⟩ 1 1 (iv [(q : Int)]) rfl rfl HV.out (iv_one _) ?d3 ?d4 ?d5 ?_)
        case d3 => unfold maxLen; omega
        case d4 => omega
        case d5 => first | omega | (simp; omega)
        intro v2 w2_ hown2 hgrow2 _
        have hb2 : Below w.heap.size w w2_ := (HB2.out.alloc hsz2 _).grown hgrow2 (by simp; omega) (fun q hq => by have := (HO2.out.lt q hq).1; omega)
        have HD3 := Lib.hid (show w2_.rowIs d 4 n (fun i => .bool (has (ord L (1)) (i : Int))) from row_grown HD2.out hgrow2 (fun q hq => by have := (HO2.out.lt q hq).1; omega))
        have HO3 := Lib.hid (show w2_.ownsRow (d + 1) 3 1 v2 (1) (iv (ord L (1))) by rw [HX.out, iv_append]; exact hown2)
        have HL3 := Lib.hid (show 1 = (ord L (1)).length by rw [HX.out, List.length_append, ← HL.out]; rfl)
        obtain ⟨a9, c9, hv9⟩ := own_form HO3.out
        subst hv9
        clear hown2 hgrow2 HI1 HV
        go_wp2_with fail
        go_step3
        try simp only [Exit.jump]
        exact ⟨rfl, 1, d, a9, c9, _, _, _, _, _, _, _, _, _, _, _, _, _, _, _, _, _, _, _, _, _, _, _, _, _, _, _, _, _, _, rfl, by omega, HG, HL3, Lib.hid hb2, HO3, HD3⟩
      | none =>
        have HE := Lib.hid (ord_end (n := n) hf (by omega))
        rw [hf] at hcall
        simp only [firstV] at hcall
        by_cases hkn : 0 < n
        · have hkn' : ((0 : Nat) : Int) < (n : Int) := by omega
          have HC := Lib.hid (show chk L = 32 by unfold chk; rw [if_pos H0.out, ← HN.out, HE.out, if_pos (by rw [← HL.out]; exact hkn)])
          go_wp2_with (go_at_call 35; refine hcall.mono ?_; rintro e y1 ⟨rfl, hb1⟩)
          try simp only [Exit.jump]
          try rw [Exit.noGoto_ret]
          go_ret2
          have hO : ordL L = [] := by unfold ordL; rw [if_neg (by rw [HC.out]; decide)]
          rw [hO, HC.out]
          exact ⟨⟨_, rfl, World.ownsRow_nil _ _ _ _⟩, HB.out.trans (hb1.mono hsz)⟩
        · have hkn' : ¬ ((0 : Nat) : Int) < (n : Int) := by omega
          have HC := Lib.hid (show chk L = 0 by unfold chk; rw [if_pos H0.out, ← HN.out, HE.out, if_neg (by rw [← HL.out]; exact hkn)])
          go_wp2_with (go_at_call 35; refine hcall.mono ?_; rintro e y1 ⟨rfl, hb1⟩)
          try simp only [Exit.jump]
          try rw [Exit.noGoto_ret]
          go_ret2
          have hO : ordL L = ord L 0 := by unfold ordL; rw [if_pos HC.out, ← HN.out]; exact HE.out
          rw [hO, HC.out]
          exact ⟨⟨_, rfl, by rw [← HL.out]; exact own_mono (Ls.own_below HO.out hb1) (by omega)⟩, HB.out.trans (hb1.mono hsz)⟩

    · clear hmk hnm
      rintro a' y3 ⟨k, d, la, lc, u7, u8, u9, u10, u11, u12, u13, u14, u15, u16, u17, u18, u19, u20, u21, u22, u23, u24, u25, u26, u27, u28, u29, u30, u31, u32, u33, u34, u35, u36, rfl, hkn0, HG, HL, HB, HO, HD⟩
      have hsz := HB.out.size
      have hdl := HD.out.lt
      have hgd := HG.out
      have hcall : Calls Tryd.prog 35 #[.slice a n c, .slice (some ⟨d, 0, none⟩) n n] y3 fun e w' => e = .returned (firstV (first L (ord L k))) ∧ Below y3.heap.size y3 w' :=
        first_any a c d n L (ord L k) 4 y3 HN.out (HP.out.on HB.out) (ok_ord L k) HD.out
      cases hf : first L (ord L k) with
      | some q =>
        have hq := (first_some hf).1
        rw [← HN.out] at hq
        have hq' : (q : Int) < n := by omega
        have hkn : k < n := by
          rcases Nat.lt_or_ge k n with h | h
          · exact h
          · have h1 := ok_full (ok_ord L k) (by rw [← HL.out, ← HN.out]; omega)
            rw [h1] at hf
            cases hf
        have HX := Lib.hid (ord_next hf)
        rw [hf] at hcall
        simp only [firstV] at hcall
        go_upto_region 8 with (go_at_call 35; refine hcall.mono ?_; rintro e y1 ⟨rfl, hb1⟩)
        have HD1 := Lib.hid (HD.out.of_block (hb1.block d hdl))
        have HO1 := Lib.hid (Ls.own_below HO.out hb1)
        have HB1 := Lib.hid (HB.out.trans (hb1.mono hsz))
        have hs1 := hb1.size
        have hcq := HD1.out.cell hq
        have hfq := HD1.out.frozen q
        clear hb1
        go_upto_region 9 with fail
        clear hcq hfq
        have HD2 := Lib.hid (row_did HD1.out (m := q))
        have HO2 := Lib.hid (own_other HO1.out (Nat.lt_succ_self d) q (.bool true))
        have HB2 := Lib.hid (HB1.out.setCell (p := ⟨d, q, none⟩) hgd (.bool true))
        obtain ⟨y2, hy2⟩ : ∃ y, y1.setCell ⟨d, q, none⟩ (.bool true) = y := ⟨_, rfl⟩
        rw [hy2] at HD2 HO2 HB2 ⊢
        clear hy2
        rw [← HX.out] at HD2
        have hsz2 := HB2.out.size
        have hdl2 := HD2.out.lt
        have HI1 := Lib.hid (HO2.out.alloc (.cells #[.int .i64 (q : Int)] 3))
        have HV := Lib.hid (iv_one1 (q : Int) y2 y2.heap.size rfl)
        go_wp2_with (at_builtin; refine wpList_append_own _ rfl _ _ 47 rfl (d + 1) 3 i0 (.int .i64 0) 1 8 Tryd.underlying47 hi hz0 hz1 hz2 rfl (by decide) _ _ _ rfl HI1.out ⟨y2.heap.size, 0, none⟩ 1 1 (iv [(q : Int)]) rfl rfl HV.out (iv_one _) ?d3 ?d4 ?d5 ?_)
        case d3 => unfold maxLen; omega
        case d4 => omega
        case d5 => first | omega | (simp; omega)
        intro v2 w2_ hown2 hgrow2 _
        have hb2 : Below w.heap.size w w2_ := (HB2.out.alloc hsz2 _).grown hgrow2 (by simp; omega) (fun q hq => by have := (HO2.out.lt q hq).1; omega)
        have HD3 := Lib.hid (show w2_.rowIs d 4 n (fun i => .bool (has (ord L (k + 1)) (i : Int))) from row_grown HD2.out hgrow2 (fun q hq => by have := (HO2.out.lt q hq).1; omega))
        have HO3 := Lib.hid (show w2_.ownsRow (d + 1) 3 1 v2 (k + 1) (iv (ord L (k + 1))) by rw [HX.out, iv_append]; exact hown2)
        have HL3 := Lib.hid (show k + 1 = (ord L (k + 1)).length by rw [HX.out, List.length_append, ← HL.out]; rfl)
        obtain ⟨a9, c9, hv9⟩ := own_form HO3.out
        subst hv9
        clear hown2 hgrow2 HI1 HV
        go_wp2_with fail
        go_step3
        try simp only [Exit.jump]
        refine ⟨rfl, ⟨k + 1, d, a9, c9, _, _, _, _, _, _, _, _, _, _, _, _, _, _, _, _, _, _, _, _, _, _, _, _, _, _, _, _, _, _, rfl, by omega, HG, HL3, Lib.hid hb2, HO3, HD3⟩, ?_⟩
        simp [lenOf]
        omega
      | none =>
        have HE := Lib.hid (ord_end (n := n) hf (by omega))
        rw [hf] at hcall
        simp only [firstV] at hcall
        by_cases hkn : k < n
        · have hkn' : ((k : Nat) : Int) < (n : Int) := by omega
          have HC := Lib.hid (show chk L = 32 by unfold chk; rw [if_pos H0.out, ← HN.out, HE.out, if_pos (by rw [← HL.out]; exact hkn)])
          go_wp2_with (go_at_call 35; refine hcall.mono ?_; rintro e y1 ⟨rfl, hb1⟩)
          try simp only [Exit.jump]
          try rw [Exit.noGoto_ret]
          go_ret2
          have hO : ordL L = [] := by unfold ordL; rw [if_neg (by rw [HC.out]; decide)]
          rw [hO, HC.out]
          exact ⟨⟨_, rfl, World.ownsRow_nil _ _ _ _⟩, HB.out.trans (hb1.mono hsz)⟩
        · have hkn' : ¬ ((k : Nat) : Int) < (n : Int) := by omega
          have HC := Lib.hid (show chk L = 0 by unfold chk; rw [if_pos H0.out, ← HN.out, HE.out, if_neg (by rw [← HL.out]; exact hkn)])
          go_wp2_with (go_at_call 35; refine hcall.mono ?_; rintro e y1 ⟨rfl, hb1⟩)
          try simp only [Exit.jump]
          try rw [Exit.noGoto_ret]
          go_ret2
          have hO : ordL L = ord L k := by unfold ordL; rw [if_pos HC.out, ← HN.out]; exact HE.out
          rw [hO, HC.out]
          exact ⟨⟨_, rfl, by rw [← HL.out]; exact own_mono (Ls.own_below HO.out hb1) (by omega)⟩, HB.out.trans (hb1.mono hsz)⟩

  · have d0 : decide (named L = 0) = false := by simp [h0]
    have HC := Lib.hid (show chk L = named L by unfold chk; rw [if_neg h0])
    have HO := Lib.hid (show ordL L = [] by unfold ordL; rw [if_neg (by rw [HC.out]; exact h0)])
    rw [HC.out, HO.out]
    obtain ⟨E, hE⟩ : ∃ E, E = named L := ⟨_, rfl⟩
    rw [← hE] at hnm h0 d0 ⊢
    clear hE
    go_enter Tryd.func19, Tryd.ntmps19
    go_wp2_with fail
    go_step3
    go_wp2_with (go_at_call 34; refine hnm.mono ?_; rintro e y1 ⟨rfl, hb1⟩)
    try rw [Exit.noGoto_ret]
    go_ret2
    exact ⟨⟨_, rfl, World.ownsRow_nil _ _ _ _⟩, hb1⟩

end Go.Proofs.YtndpidmbfdpiaaaDoor.Pn
