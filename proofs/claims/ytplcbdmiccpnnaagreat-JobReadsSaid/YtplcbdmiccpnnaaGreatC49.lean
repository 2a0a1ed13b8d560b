/- Scenes from one side to the other: the contract of To. -/
import Derived.Test.YtplcbdmiccpnnaaGreatC38
import Derived.Test.YtplcbdmiccpnnaaGreatC48
import Derived.Test.YtplcbdmiccpnnaaGreatC03
import Derived.Deep.MidRow
import Derived.Laws.CopyOwn
import Derived.Deep.DeepCutAuto
import Derived.Deep.RegionHeld3
import Derived.StillTailTactics
import Derived.Deep.AppendLies
namespace Go.Proofs.YtplcbdmiccpnnaaGreat.Sc
open Go.RowKit Go.Proofs.YtplcbdmiccpnnaaGreat Go.Proofs.YtplcbdmiccpnnaaGreat.Wa Go.Proofs.YtplcbdmiccpnnaaGreat.Ve Go.Proofs.YtplcbdmiccpnnaaGreat.Tk Go.Proofs.YtplcbdmiccpnnaaGreat.Ls
set_option linter.unusedVariables false

theorem infoToP : (Tryz.prog.info? 91).map (fun i => (i.zero, i.size, i.bytes)) = some (some (.agg #[.int .i64 0, .int .i64 0, .int .i64 0, .int .i64 0, .int .i64 0]), 5, 40) := by kernel_rfl

theorem infoToT : (Tryz.prog.info? 94).map (fun i => (i.zero, i.size, i.bytes)) = some (some (.agg #[.int .i64 0, .slice none 0 0]), 2, 32) := by kernel_rfl

theorem infoToJ : (Tryz.prog.info? 97).map (fun i => (i.zero, i.size, i.bytes)) = some (some (.agg #[.int .i64 0, .int .i64 0, .int .i64 0, .int .i64 0]), 4, 32) := by kernel_rfl

theorem infoToS : (Tryz.prog.info? 103).map (fun i => (i.zero, i.size, i.bytes)) = some (some (.agg #[.int .i64 0, .int .i64 0, .int .i64 0, .int .i64 0, .int .i64 0, .int .i64 0, .int .i64 0, .int .i64 0, .int .i64 0, .int .i64 0, .int .i64 0, .int .i64 0, .int .i64 0]), 13, 104) := by kernel_rfl

theorem tos_start {eP eT eJ eS t : TypeId} {W1 wz : World} {s : Scn} {q : Nat} (h1 : W1.heap.size ≤ q) (hZ : wz.heap[q]? = some (.cells #[.int .i64 s.w, .int .i64 s.h, .int .i64 s.sm, .int .i64 s.dp, .int .i64 s.fr, .int .i64 s.sh, .int .u64 s.sd, .int .i64 s.r, .int .i64 s.g, .int .i64 s.b, .int .i64 s.ey, .int .i64 s.lk, .int .i64 s.wd, .slice none 0 0, .slice none 0 0, .slice none 0 0, .slice none 0 0] t (0, 0))) (hb : Below W1.heap.size W1 wz) : ToS eP eT eJ eS W1 s q wz.heap.size 0 0 0 0 (.slice none 0 0) (.slice none 0 0) (.slice none 0 0) (.slice none 0 0) wz := by
  have hc : ∀ i, wz.cell? ⟨q, i, none⟩ = (#[.int .i64 s.w, .int .i64 s.h, .int .i64 s.sm, .int .i64 s.dp, .int .i64 s.fr, .int .i64 s.sh, .int .u64 s.sd, .int .i64 s.r, .int .i64 s.g, .int .i64 s.b, .int .i64 s.ey, .int .i64 s.lk, .int .i64 s.wd, .slice none 0 0, .slice none 0 0, .slice none 0 0, .slice none 0 0] : Array Value)[i]? := fun i => cell_of_row _ _ i _ _ _ hZ
  refine ⟨h1, ?_, Nat.le_refl _, hb, ?_, fun m => ?_, World.ownsRow_nil _ _ _ _, ⟨fun _ => none, fun _ => 0, World.ownsRow_nil _ _ _ _, fun i hi => by omega⟩, World.ownsRow_nil _ _ _ _, World.ownsRow_nil _ _ _ _⟩
  · rcases Nat.lt_or_ge q wz.heap.size with h' | h'
    · exact h'
    · rw [Array.getElem?_eq_none h'] at hZ; cases hZ
  · unfold OB
    rw [hc, hc, hc, hc, hc, hc, hc, hc, hc, hc, hc, hc, hc, hc, hc, hc, hc]
    exact ⟨rfl, rfl, rfl, rfl, rfl, rfl, rfl, rfl, rfl, rfl, rfl, rfl, rfl, rfl, rfl, rfl, rfl⟩
  · simp [World.frozen?, hZ]

section
variable {P : Program}

theorem step_store_row {ops : Array Oper} {o : Oper} {a : Act} {w : World} {K : Act → World → Prop} {Q : Exit → Act → World → Prop} {E : Prop} (hgd : o.guard = none) (ty : TypeId) (x y : Operand) (ho : o.op = .store ty x y)
    (c c' : Array Value) (b : Nat) (t : TypeId) (hb : w.heap[b]? = some (.cells c t (0, 0))) (hx : a.eval x = .pointer (some ⟨b, 0, none⟩)) (hy : a.eval y = .agg c')
    (hi : (P.info? ty).map (·.size) = some c'.size) (hc : c.size = c'.size) (h1 : c'.all (·.oneCell') = true)
    (h : K (a.put o.dst undef) (w.setRow b c')) : if Region.wanted o (yielded ops a.tmps) = true then Oper.wp P o a w K Q else E := by
  have hw : Region.wanted o (yielded ops a.tmps) = true := by simp [Region.wanted, hgd]
  rw [if_pos hw]
  have hs : (Instr.storeAt ty (.pointer (some ⟨b, 0, none⟩)) (.agg c')).run P w = .ok () (w.setRow b c') := by
    simp only [Instr.storeAt, Instr.sureAddr, Sem.run_bind, Sem.run_pure, Result.andThen]
    exact run_storeVar_row w b t ty c c' hb hi hc h1
  unfold Oper.wp execOp
  simp only [ho, hx, hy, hs, Sem.run_bind, Sem.run_pure, Result.andThen_ok]
  exact h
end

theorem lt_heap {w : World} {k : Nat} {x : Obj} (h : w.heap[k]? = some x) : k < w.heap.size := by
  rcases Nat.lt_or_ge k w.heap.size with h' | h'
  · exact h'
  · rw [Array.getElem?_eq_none h'] at h; cases h

end Go.Proofs.YtplcbdmiccpnnaaGreat.Sc

/- A track from the program's side to the document's. -/
namespace Go.Proofs.YtplcbdmiccpnnaaGreat.Sc
open Go.RowKit Go.Proofs.YtplcbdmiccpnnaaGreat Go.Proofs.YtplcbdmiccpnnaaGreat.Wa Go.Proofs.YtplcbdmiccpnnaaGreat.Ve Go.Proofs.YtplcbdmiccpnnaaGreat.Tk Go.Proofs.YtplcbdmiccpnnaaGreat.Ls
set_option linter.unusedVariables false

theorem vfrom_any (ax ay az : Int) (w : World) : Calls Tryz.prog 23 #[V3 ax ay az] w fun e w' => e = .returned (V3 ax ay az) ∧ Below w.heap.size w w' := by
  go_enter Tryz.func23, Tryz.ntmps23
  go_wp2
  exact bodyPost_ret (v := V3 ax ay az) (by simp [results, Tryz.results23, go_sem]) rfl ⟨rfl, below_n2 _ _ _⟩

theorem infoRK : (Tryz.prog.info? 79).map (fun i => (i.zero, i.size, i.bytes)) = some (some (.agg #[.int .i64 0, .int .i64 0, .int .i64 0, .int .i64 0]), 4, 32) := by kernel_rfl

theorem lt_of_heap2 {w : World} {k : Nat} {o : Obj} (h : w.heap[k]? = some o) : k < w.heap.size := by
  rcases Nat.lt_or_ge k w.heap.size with h' | h'
  · exact h'
  · rw [Array.getElem?_eq_none h'] at h; cases h

/-- a track under way -/
structure FrS (eK : TypeId) (w0 : World) (way : Int) (L : Nat → Int) (q B0 k : Nat) (kv : Value) (w : World) : Prop where
  l1 : w0.heap.size ≤ q
  l2 : q < B0
  l3 : B0 ≤ w.heap.size
  bl : Below w0.heap.size w0 w
  c0 : w.cell? ⟨q, 0, none⟩ = some (.int .i64 way)
  c1 : w.cell? ⟨q, 1, none⟩ = some kv
  fr : ∀ m, w.frozen? ⟨q, m, none⟩ = false
  rk : w.ownsRow B0 eK 4 kv k (fl 4 L k)

section
variable {eK : TypeId} {w0 w w2 : World} {way : Int} {L : Nat → Int} {q B0 k : Nat} {kv : Value}

theorem FrS.on (h : FrS eK w0 way L q B0 k kv w) (hb : Below w.heap.size w w2) : FrS eK w0 way L q B0 k kv w2 := by
  have h1 := h.l1
  have h2 := h.l2
  have h3 := h.l3
  exact ⟨h.l1, h.l2, Nat.le_trans h.l3 hb.size, h.bl.trans (hb.mono (by omega)), held_on hb h.c0, held_on hb h.c1, fun m => (hb.frozen (p := ⟨q, m, none⟩) (by show q < _; omega)).trans (h.fr m), own_below h.rk hb⟩

theorem FrS.gblk (h : FrS eK w0 way L q B0 k kv w) (hg : w.grownBy w2 kv.ownBlock) : w2.heap[q]? = w.heap[q]? := by
  have h2 := h.l2
  have h3 := h.l3
  exact hg.block q (by omega) (fun e => by have := (h.rk.lt q e.symm).1; omega)

theorem FrS.gc1 (h : FrS eK w0 way L q B0 k kv w) (hg : w.grownBy w2 kv.ownBlock) : w2.cell? ⟨q, 1, none⟩ = some kv := (World.cell?_of_block (a := ⟨q, 1, none⟩) (h.gblk hg)).trans h.c1

theorem FrS.gfr (h : FrS eK w0 way L q B0 k kv w) (hg : w.grownBy w2 kv.ownBlock) (m : Nat) : w2.frozen? ⟨q, m, none⟩ = false := (World.frozen?_of_block (a := ⟨q, m, none⟩) (h.gblk hg)).trans (h.fr m)

theorem FrS.step (h : FrS eK w0 way L q B0 k kv w) (hg : w.grownBy w2 kv.ownBlock) (kv2 : Value) (ho : w2.ownsRow B0 eK 4 kv2 (k + 1) (fl 4 L (k + 1))) : FrS eK w0 way L q B0 (k + 1) kv2 (w2.setCell ⟨q, 1, none⟩ kv2) := by
  have h1 := h.l1
  have h2 := h.l2
  have h3 := h.l3
  refine ⟨h.l1, h.l2, by rw [World.size_setCell]; exact Nat.le_trans h.l3 hg.size, (h.bl.grown hg h.bl.size (fun x hx => by have := (h.rk.lt x hx).1; omega)).setCell (by show _ ≤ q; omega) _, ?_, World.cell?_setCell_same _ _ _ (h.gc1 hg), fun m => ?_, ownsRow_setCell_below ho (by show q < B0; exact h2) _⟩
  · rw [cset (h.gc1 hg), if_neg (by omega)]
    exact (World.cell?_of_block (a := ⟨q, 0, none⟩) (h.gblk hg)).trans h.c0
  · rw [World.frozen?_setCell]; exact h.gfr hg m
end

set_option maxHeartbeats 8000000 in
set_option maxRecDepth 100000 in
theorem tfrom2_any (way : Int) (a : Option Addr) (n cap : Nat) (L : Nat → Int) (w : World) (hr : KeysAt w a n L) :
    Calls Tryz.prog 22 #[.agg #[.int .i64 way, .slice a n cap]] w fun e w' => (∃ a' cap', e = .returned (.agg #[.int .i64 way, .slice a' n cap']) ∧ KeysAt w' a' n L ∧ ∀ p, a' = some p → w.heap.size ≤ p.block) ∧ Below w.heap.size w w' := by
  obtain ⟨i0, hi, hz0, hz1, hz2⟩ := info_parts infoRK
  have hn := hr.1
  have HR := Lib.hid hr
  clear hr
  go_enter Tryz.func22, Tryz.ntmps22
  go_wp2_with fail
  obtain ⟨W1, hW1⟩ : ∃ W1, (w.alloc (.cells #[.int .i64 way, .slice a n cap] 94)).alloc (.cells #[.int .i64 0, .slice none 0 0] 77) = W1 := ⟨_, rfl⟩
  have hz1' : W1.heap.size = w.heap.size + 1 + 1 := by rw [← hW1]; simp
  have HBW := Lib.hid (show Below w.heap.size w W1 by rw [← hW1]; exact below_n2 _ _ _)
  have HRS := Lib.hid (show W1.heap[w.heap.size + 1]? = some (.cells #[.int .i64 0, .slice none 0 0] 77 (0, 0)) by rw [← hW1]; exact heap_last2 _ _ _)
  rw [hW1]
  have hq0 := heap_alloc_last W1 (.cells #[.int .i64 way, .slice none 0 0] 77)
  rw [hz1'] at hq0
  have HT : Hid (FrS 79 W1 way L (w.heap.size + 1 + 1) (w.heap.size + 1 + 1 + 1) 0 (.slice none 0 0) (W1.alloc (.cells #[.int .i64 way, .slice none 0 0] 77))) :=
    Lib.hid ⟨by omega, by omega, by rw [World.size_alloc]; omega, below_n1 _ _, cell_of_row _ _ 0 _ _ _ hq0, cell_of_row _ _ 1 _ _ _ hq0, fun m => by simp [World.frozen?, hq0], World.ownsRow_nil _ _ _ _⟩
  obtain ⟨q, hq⟩ : ∃ q, q = w.heap.size + 1 + 1 := ⟨_, rfl⟩
  obtain ⟨B0, hB0⟩ : ∃ B0, B0 = w.heap.size + 1 + 1 + 1 := ⟨_, rfl⟩
  rw [← hB0, ← hq] at HT
  rw [← hq]
  have hqw : w.heap.size + 1 < q := by omega
  have hW1q : W1.heap.size = q := by omega
  clear hW1 hq0 hB0 hq hz1'
  go_loopw [12] (fun ix wr => ∃ (k : Nat) (kv : Value), k ≤ n ∧ ix = .int .i64 k ∧ Hid (FrS 79 W1 way L q B0 k kv wr)) (fun ix _ => n - (intOf ix).toNat)
  case atStart => exact ⟨0, _, Nat.zero_le _, rfl, HT⟩
  case round =>
    clear HT
    obtain ⟨k, kv, hk, rfl, HT⟩ := hrel
    by_cases hlt : k < n
    · have hww := HBW.out.trans (HT.out.bl.mono (by omega))
      obtain ⟨-, h' | ⟨b, off, rfl, hb, hc⟩⟩ := HR.out.on hww
      · omega
      have hlt' : (k : Int) < n := by omega
      obtain ⟨c0, c1, c2, c3⟩ := four_of hc hlt
      clear hc
      have hT0 := HT.out.on ((below_n1 wr (.cells #[.int .i64 (L (k * 4)), .int .i64 (L (k * 4 + 1)), .int .i64 (L (k * 4 + 2)), .int .i64 (L (k * 4 + 3))] 137)).drew)
      have hpq : wr.heap.size ≠ q := by have := HT.out.l2; have := HT.out.l3; omega
      have hpb : some wr.heap.size ≠ kv.ownBlock := fun e => by have := (HT.out.rk.lt _ e.symm).2; omega
      go_wp2_with fail
      refine wp_region_held_drew (S := fun y => y.heap[wr.heap.size]? = some (.cells #[.int .i64 (L (k * 4)), .int .i64 (L (k * 4 + 1)), .int .i64 (L (k * 4 + 2)), .int .i64 (L (k * 4 + 3))] 137 (0, 0))) (by kernel_rfl) (heap_alloc_last wr _) (fun hS0 => ?_)
      obtain ⟨y0, hy0⟩ : ∃ y0, (wr.alloc (.cells #[.int .i64 (L (k * 4)), .int .i64 (L (k * 4 + 1)), .int .i64 (L (k * 4 + 2)), .int .i64 (L (k * 4 + 3))] 137)).drew = y0 := ⟨_, rfl⟩
      rw [hy0] at hS0 hT0 ⊢
      clear hy0
      refine wpAnyH_take (i := 0) (v := ?_) rfl (by kernel_rfl) (by kernel_rfl) (by kernel_rfl) (fun _ _ _ h => h) (Or.inl ⟨by kernel_rfl, by (intro wz hSz; go_simp; try with_reducible rfl)⟩) hS0 ?_
      go_simp
      refine wpAnyH_take (i := 2) (v := ?_) rfl (by kernel_rfl) (by kernel_rfl) (by kernel_rfl) (fun _ _ _ h => h) (Or.inl ⟨by kernel_rfl, by (intro wz hSz; go_simp; try with_reducible rfl)⟩) hS0 ?_
      go_simp
      refine wpAnyH_take (i := 3) (v := ?_) rfl (by kernel_rfl) (by kernel_rfl) (by kernel_rfl) (fun _ _ _ h => h) (Or.inl ⟨by kernel_rfl, by (intro wz hSz; have c0 := cell_of_row _ _ 0 _ _ _ hSz; have c1 := cell_of_row _ _ 1 _ _ _ hSz; have c2 := cell_of_row _ _ 2 _ _ _ hSz; have c3 := cell_of_row _ _ 3 _ _ _ hSz; simp at c0 c1 c2 c3; go_simp; try with_reducible rfl)⟩) hS0 ?_
      go_simp
      refine wpAnyH_take (i := 4) (v := ?_) rfl (by kernel_rfl) (by kernel_rfl) (by kernel_rfl) (fun _ _ _ h => h) (Or.inl ⟨by kernel_rfl, by (intro wz hSz; go_simp; try with_reducible rfl)⟩) hS0 ?_
      go_simp
      refine wpAnyH_take (i := 5) (v := ?_) rfl (by kernel_rfl) (by kernel_rfl) (by kernel_rfl) (fun _ _ _ h => h) (Or.inl ⟨by kernel_rfl, by (intro wz hSz; have c0 := cell_of_row _ _ 0 _ _ _ hSz; have c1 := cell_of_row _ _ 1 _ _ _ hSz; have c2 := cell_of_row _ _ 2 _ _ _ hSz; have c3 := cell_of_row _ _ 3 _ _ _ hSz; simp at c0 c1 c2 c3; go_simp; try with_reducible rfl)⟩) hS0 ?_
      go_simp
      refine wpAnyH_ready (rs := [1, 6]) (by kernel_rfl) (by simp) ?_
      refine AllReadyH.cons rfl (fun K hK => ?_) (AllReadyH.cons rfl (fun K hK => ?_) AllReadyH.nil)
      · skip
        have o1 := hT0.c1
        go_simp
        refine hK.out _ _ (hS0) (fun hS0l => ?_)
        clear hK K
        refine wpAnyH_ready (rs := [6]) (by kernel_rfl) (by simp) ?_
        refine AllReadyH.cons rfl (fun K hK => ?_) AllReadyH.nil
        go_simp
        go_wp2_with (go_at_call 23; refine (vfrom_any _ _ _ _).mono ?_; rintro e y1 ⟨rfl, hb1⟩)
        have hT1 := hT0.on hb1
        refine hK.out _ _ ((hb1.block _ (lt_of_heap2 hS0l)).trans hS0l) (fun hS1 => ?_)
        clear hK K
        refine wpAnyH_take (i := 7) (v := ?_) rfl (by kernel_rfl) (by kernel_rfl) (by kernel_rfl) (fun _ _ _ h => h) (Or.inl ⟨by kernel_rfl, by (intro wz hSz; go_simp; try with_reducible rfl)⟩) hS1 ?_
        go_simp
        refine wpAnyH_ready (rs := [8]) (by kernel_rfl) (by simp) ?_
        refine AllReadyH.cons rfl (fun K hK => ?_) AllReadyH.nil
        go_simp
        have hTB := hT1.on (below_n1 y1 (.cells #[.int .i64 (L (k * 4)), .int .i64 (L (k * 4 + 1)), .int .i64 (L (k * 4 + 2)), .int .i64 (L (k * 4 + 3))] 79))
        refine hK.out _ _ (((below_n1 y1 (.cells #[.int .i64 (L (k * 4)), .int .i64 (L (k * 4 + 1)), .int .i64 (L (k * 4 + 2)), .int .i64 (L (k * 4 + 3))] 79)).block _ (lt_of_heap2 hS1)).trans hS1) (fun hSB => ?_)
        clear hK K
        refine wpAnyH_ready (rs := [9]) (by kernel_rfl) (by simp) ?_
        refine AllReadyH.cons rfl (fun K hK => ?_) AllReadyH.nil
        have hl3 := hTB.l3
        refine step_append_lies _ rfl _ _ 75 rfl B0 79 i0 (.agg #[.int .i64 0, .int .i64 0, .int .i64 0, .int .i64 0]) 4 32 Tryz.underlying75 hi hz0 hz1 hz2 rfl (by decide) _ _ _ rfl hTB.rk ⟨y1.heap.size, 0, none⟩ 1 1 [.int .i64 (L (k * 4)), .int .i64 (L (k * 4 + 1)), .int .i64 (L (k * 4 + 2)), .int .i64 (L (k * 4 + 3))] rfl rfl ?c1 ?c2 (by omega) ?c3 ?c4 ?c5 _ rfl ?_
        case c1 =>
          intro j u hj
          match j, hj with
          | 0, hj => simp at hj; subst hj; simp [Addr.add]
          | 1, hj => simp at hj; subst hj; simp [Addr.add]
          | 2, hj => simp at hj; subst hj; simp [Addr.add]
          | 3, hj => simp at hj; subst hj; simp [Addr.add]
        case c2 => intro u hu; simp at hu; rcases hu with rfl | rfl | rfl | rfl <;> rfl
        case c3 => unfold maxLen; omega
        case c4 => omega
        case c5 => exact hl3
        intro g cg w2 hown hgrow hgk hlt2
        refine hK.out _ _ ((hgrow.block _ (lt_of_heap2 hSB) hpb).trans hSB) (fun hSA => ?_)
        clear hK K
        refine wpAnyH_take (i := 10) (v := ?_) rfl (by kernel_rfl) (by kernel_rfl) (by kernel_rfl) (fun _ _ _ h => h) (Or.inl ⟨by kernel_rfl, by (intro wz hSz; go_simp; try with_reducible rfl)⟩) hSA ?_
        go_simp
        refine wpAnyH_ready (rs := [11]) (by kernel_rfl) (by simp) ?_
        refine AllReadyH.cons rfl (fun K hK => ?_) AllReadyH.nil
        have o1 := hTB.gc1 hgrow
        have fz := hTB.gfr hgrow 1
        go_simp
        refine hK.out _ _ ((Below.heap_setCell _ _ _ _ hpq).trans hSA) (fun hSZ => ?_)
        clear hK K
        refine wpAnyH_done (by kernel_rfl) ?_ _
        have hZ := hTB.step hgrow (.slice (some ⟨g, 0, none⟩) (k + 1) cg) (by rw [fl4_step]; exact hown)
        go_wp2
        go_roundw
        case rel => exact ⟨k + 1, _, by omega, by go_num, Lib.hid hZ⟩
        case measure => simp [intOf]; omega
      · skip
        go_simp
        go_wp2_with (go_at_call 23; refine (vfrom_any _ _ _ _).mono ?_; rintro e y1 ⟨rfl, hb1⟩)
        have hT1 := hT0.on hb1
        refine hK.out _ _ ((hb1.block _ (lt_of_heap2 hS0)).trans hS0) (fun hS1 => ?_)
        clear hK K
        refine wpAnyH_take (i := 7) (v := ?_) rfl (by kernel_rfl) (by kernel_rfl) (by kernel_rfl) (fun _ _ _ h => h) (Or.inl ⟨by kernel_rfl, by (intro wz hSz; go_simp; try with_reducible rfl)⟩) hS1 ?_
        go_simp
        refine wpAnyH_ready (rs := [1, 8]) (by kernel_rfl) (by simp) ?_
        refine AllReadyH.cons rfl (fun K hK => ?_) (AllReadyH.cons rfl (fun K hK => ?_) AllReadyH.nil)
        · skip
          have o1 := hT1.c1
          go_simp
          refine hK.out _ _ (hS1) (fun hS1l => ?_)
          clear hK K
          refine wpAnyH_ready (rs := [8]) (by kernel_rfl) (by simp) ?_
          refine AllReadyH.cons rfl (fun K hK => ?_) AllReadyH.nil
          go_simp
          have hTB := hT1.on (below_n1 y1 (.cells #[.int .i64 (L (k * 4)), .int .i64 (L (k * 4 + 1)), .int .i64 (L (k * 4 + 2)), .int .i64 (L (k * 4 + 3))] 79))
          refine hK.out _ _ (((below_n1 y1 (.cells #[.int .i64 (L (k * 4)), .int .i64 (L (k * 4 + 1)), .int .i64 (L (k * 4 + 2)), .int .i64 (L (k * 4 + 3))] 79)).block _ (lt_of_heap2 hS1l)).trans hS1l) (fun hSB => ?_)
          clear hK K
          refine wpAnyH_ready (rs := [9]) (by kernel_rfl) (by simp) ?_
          refine AllReadyH.cons rfl (fun K hK => ?_) AllReadyH.nil
          have hl3 := hTB.l3
          refine step_append_lies _ rfl _ _ 75 rfl B0 79 i0 (.agg #[.int .i64 0, .int .i64 0, .int .i64 0, .int .i64 0]) 4 32 Tryz.underlying75 hi hz0 hz1 hz2 rfl (by decide) _ _ _ rfl hTB.rk ⟨y1.heap.size, 0, none⟩ 1 1 [.int .i64 (L (k * 4)), .int .i64 (L (k * 4 + 1)), .int .i64 (L (k * 4 + 2)), .int .i64 (L (k * 4 + 3))] rfl rfl ?c1 ?c2 (by omega) ?c3 ?c4 ?c5 _ rfl ?_
          case c1 =>
            intro j u hj
            match j, hj with
            | 0, hj => simp at hj; subst hj; simp [Addr.add]
            | 1, hj => simp at hj; subst hj; simp [Addr.add]
            | 2, hj => simp at hj; subst hj; simp [Addr.add]
            | 3, hj => simp at hj; subst hj; simp [Addr.add]
          case c2 => intro u hu; simp at hu; rcases hu with rfl | rfl | rfl | rfl <;> rfl
          case c3 => unfold maxLen; omega
          case c4 => omega
          case c5 => exact hl3
          intro g cg w2 hown hgrow hgk hlt2
          refine hK.out _ _ ((hgrow.block _ (lt_of_heap2 hSB) hpb).trans hSB) (fun hSA => ?_)
          clear hK K
          refine wpAnyH_take (i := 10) (v := ?_) rfl (by kernel_rfl) (by kernel_rfl) (by kernel_rfl) (fun _ _ _ h => h) (Or.inl ⟨by kernel_rfl, by (intro wz hSz; go_simp; try with_reducible rfl)⟩) hSA ?_
          go_simp
          refine wpAnyH_ready (rs := [11]) (by kernel_rfl) (by simp) ?_
          refine AllReadyH.cons rfl (fun K hK => ?_) AllReadyH.nil
          have o1 := hTB.gc1 hgrow
          have fz := hTB.gfr hgrow 1
          go_simp
          refine hK.out _ _ ((Below.heap_setCell _ _ _ _ hpq).trans hSA) (fun hSZ => ?_)
          clear hK K
          refine wpAnyH_done (by kernel_rfl) ?_ _
          have hZ := hTB.step hgrow (.slice (some ⟨g, 0, none⟩) (k + 1) cg) (by rw [fl4_step]; exact hown)
          go_wp2
          go_roundw
          case rel => exact ⟨k + 1, _, by omega, by go_num, Lib.hid hZ⟩
          case measure => simp [intOf]; omega
        · skip
          go_simp
          have hTB := hT1.on (below_n1 y1 (.cells #[.int .i64 (L (k * 4)), .int .i64 (L (k * 4 + 1)), .int .i64 (L (k * 4 + 2)), .int .i64 (L (k * 4 + 3))] 79))
          refine hK.out _ _ (((below_n1 y1 (.cells #[.int .i64 (L (k * 4)), .int .i64 (L (k * 4 + 1)), .int .i64 (L (k * 4 + 2)), .int .i64 (L (k * 4 + 3))] 79)).block _ (lt_of_heap2 hS1)).trans hS1) (fun hSB => ?_)
          clear hK K
          refine wpAnyH_ready (rs := [1]) (by kernel_rfl) (by simp) ?_
          refine AllReadyH.cons rfl (fun K hK => ?_) AllReadyH.nil
          have o1 := hTB.c1
          go_simp
          refine hK.out _ _ (hSB) (fun hSBl => ?_)
          clear hK K
          refine wpAnyH_ready (rs := [9]) (by kernel_rfl) (by simp) ?_
          refine AllReadyH.cons rfl (fun K hK => ?_) AllReadyH.nil
          have hl3 := hTB.l3
          refine step_append_lies _ rfl _ _ 75 rfl B0 79 i0 (.agg #[.int .i64 0, .int .i64 0, .int .i64 0, .int .i64 0]) 4 32 Tryz.underlying75 hi hz0 hz1 hz2 rfl (by decide) _ _ _ rfl hTB.rk ⟨y1.heap.size, 0, none⟩ 1 1 [.int .i64 (L (k * 4)), .int .i64 (L (k * 4 + 1)), .int .i64 (L (k * 4 + 2)), .int .i64 (L (k * 4 + 3))] rfl rfl ?c1 ?c2 (by omega) ?c3 ?c4 ?c5 _ rfl ?_
          case c1 =>
            intro j u hj
            match j, hj with
            | 0, hj => simp at hj; subst hj; simp [Addr.add]
            | 1, hj => simp at hj; subst hj; simp [Addr.add]
            | 2, hj => simp at hj; subst hj; simp [Addr.add]
            | 3, hj => simp at hj; subst hj; simp [Addr.add]
          case c2 => intro u hu; simp at hu; rcases hu with rfl | rfl | rfl | rfl <;> rfl
          case c3 => unfold maxLen; omega
          case c4 => omega
          case c5 => exact hl3
          intro g cg w2 hown hgrow hgk hlt2
          refine hK.out _ _ ((hgrow.block _ (lt_of_heap2 hSBl) hpb).trans hSBl) (fun hSA => ?_)
          clear hK K
          refine wpAnyH_take (i := 10) (v := ?_) rfl (by kernel_rfl) (by kernel_rfl) (by kernel_rfl) (fun _ _ _ h => h) (Or.inl ⟨by kernel_rfl, by (intro wz hSz; go_simp; try with_reducible rfl)⟩) hSA ?_
          go_simp
          refine wpAnyH_ready (rs := [11]) (by kernel_rfl) (by simp) ?_
          refine AllReadyH.cons rfl (fun K hK => ?_) AllReadyH.nil
          have o1 := hTB.gc1 hgrow
          have fz := hTB.gfr hgrow 1
          go_simp
          refine hK.out _ _ ((Below.heap_setCell _ _ _ _ hpq).trans hSA) (fun hSZ => ?_)
          clear hK K
          refine wpAnyH_done (by kernel_rfl) ?_ _
          have hZ := hTB.step hgrow (.slice (some ⟨g, 0, none⟩) (k + 1) cg) (by rw [fl4_step]; exact hown)
          go_wp2
          go_roundw
          case rel => exact ⟨k + 1, _, by omega, by go_num, Lib.hid hZ⟩
          case measure => simp [intOf]; omega
    · obtain rfl : k = n := by omega
      obtain ⟨a9, c9, rfl, -, hN⟩ := own_nums (by omega) HT.out.rk
      have ho := HT.out.rk
      have hl3 := HT.out.l3
      have hl2 := HT.out.l2
      have g0 := HT.out.c0
      have g1 := HT.out.c1
      have hRb := (HT.out.bl.block (w.heap.size + 1) (by omega)).trans HRS.out
      have r0 := cell_of_row _ _ 0 _ _ _ hRb
      have r1 := cell_of_row _ _ 1 _ _ _ hRb
      have rf0 : wr.frozen? ⟨w.heap.size + 1, 0, none⟩ = false := by simp [World.frozen?, hRb]
      have rf1 : wr.frozen? ⟨w.heap.size + 1, 1, none⟩ = false := by simp [World.frozen?, hRb]
      simp at r0 r1
      have HB9 := Lib.hid (show Below w.heap.size w ((wr.setCell ⟨w.heap.size + 1, 0, none⟩ (.int .i64 way)).setCell ⟨w.heap.size + 1, 1, none⟩ (.slice a9 k c9)) from ((HBW.out.trans (HT.out.bl.mono (by omega))).setCell (by show w.heap.size ≤ w.heap.size + 1; omega) _).setCell (by show w.heap.size ≤ w.heap.size + 1; omega) _)
      have HK9 := Lib.hid (show KeysAt ((wr.setCell ⟨w.heap.size + 1, 0, none⟩ (.int .i64 way)).setCell ⟨w.heap.size + 1, 1, none⟩ (.slice a9 k c9)) a9 k L ∧ ∀ p, a9 = some p → w.heap.size ≤ p.block from by
        have ho2 := ownsRow_setCell_below (ownsRow_setCell_below ho (a := ⟨w.heap.size + 1, 0, none⟩) (by show w.heap.size + 1 < B0; omega) (.int .i64 way)) (a := ⟨w.heap.size + 1, 1, none⟩) (by show w.heap.size + 1 < B0; omega) (.slice a9 k c9)
        obtain ⟨x, y, e, -, hN2⟩ := own_nums (by omega) ho2
        cases e
        refine ⟨⟨by have := hN2.1; omega, hN2.2⟩, fun p hp => ?_⟩
        subst hp
        have := (ho.lt p.block rfl).1
        omega)
      clear hN ho hRb
      go_wp2
      exact bodyPost_ret (v := .agg #[.int .i64 way, .slice a9 k c9]) (by simp [results, Tryz.results22, go_sem, r0, r1]) rfl ⟨⟨_, _, rfl, HK9.out.1, HK9.out.2⟩, HB9.out⟩

end Go.Proofs.YtplcbdmiccpnnaaGreat.Sc
