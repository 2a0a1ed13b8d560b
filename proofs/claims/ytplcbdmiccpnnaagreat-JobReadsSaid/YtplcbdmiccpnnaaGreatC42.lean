/- Scenes: the contract of Check: the first rule broken, and where. -/
import Derived.Test.YtplcbdmiccpnnaaGreatC37
import Derived.Test.YtplcbdmiccpnnaaGreatC38
import Derived.Test.YtplcbdmiccpnnaaGreatC03
import Derived.Test.YtplcbdmiccpnnaaGreatC20
namespace Go.Proofs.YtplcbdmiccpnnaaGreat.Sc
open Go.RowKit Go.Shelf Go.Proofs.YtplcbdmiccpnnaaGreat Go.Proofs.YtplcbdmiccpnnaaGreat.Wa Go.Proofs.YtplcbdmiccpnnaaGreat.Ve Go.Proofs.YtplcbdmiccpnnaaGreat.Tk Go.Proofs.YtplcbdmiccpnnaaGreat.Ls
set_option linter.unusedVariables false

/-- the rules, in a row -/
def Rules (w : World) (R : Nat) (s : Scn) : Prop := R < w.heap.size ∧ ∀ k, k < 7 → ∃ g lb cs, w.cell? ⟨R, k * 2, none⟩ = some (.int .i64 (21 + (k : Int))) ∧ w.cell? ⟨R, k * 2 + 1, none⟩ = some (.func (.func g) lb cs) ∧ Ent g ∧ Where w g lb cs (wh s k)

theorem Rules.on {w w' : World} {R : Nat} {s : Scn} (h : Rules w R s) (hb : Below w.heap.size w w') : Rules w' R s :=
  ⟨Nat.lt_of_lt_of_le h.1 hb.size, fun k hk => by
    obtain ⟨g, lb, cs, h1, h2, h3, h4⟩ := h.2 k hk
    exact ⟨g, lb, cs, held_on hb h1, held_on hb h2, h3, h4.on hb⟩⟩

theorem SBox.head {w : World} {q : Nat} {s : Scn} {a : Pla} (h : SBox w q s a) : w.rangeAt q 0 [.int .i64 s.w, .int .i64 s.h, .int .i64 s.sm, .int .i64 s.dp, .int .i64 s.fr, .int .i64 s.sh, .int .u64 s.sd, .int .i64 s.r, .int .i64 s.g, .int .i64 s.b] := fun j v hv => by
  have hj : j < 10 := by
    rcases Nat.lt_or_ge j 10 with h' | h'
    · exact h'
    · rw [List.getElem?_eq_none (by simpa using h')] at hv; cases hv
  refine h.range j v ?_
  match j, hj with
  | 0, _ => exact hv
  | 1, _ => exact hv
  | 2, _ => exact hv
  | 3, _ => exact hv
  | 4, _ => exact hv
  | 5, _ => exact hv
  | 6, _ => exact hv
  | 7, _ => exact hv
  | 8, _ => exact hv
  | 9, _ => exact hv

theorem store_rule (w : World) (ec : Int) (g : Nat) (lb fs : Array Value) (t : TypeId) : (store ⟨w.heap.size, 1, none⟩ (.func (.func g) lb fs)).run Tryz.prog (w.alloc (.cells #[.int .i64 ec, .nilFunc] t)) = .ok () (w.alloc (.cells #[.int .i64 ec, .func (.func g) lb fs] t)) := by
  rw [run_store _ _ _ _ _ rfl]
  simp [go_sem]

theorem chk_none {s : Scn} (h : ∀ j, j < 7 → wh s j = -1) : chk s = (0, 0) := chk_ok h

theorem whs_snoc {s : Scn} {k : Nat} (h : ∀ j, j < k → wh s j = -1) (hk : wh s k = -1) : ∀ j, j < k + 1 → wh s j = -1 := fun j hj => by
  by_cases e : j = k
  · subst e; exact hk
  · exact h j (by omega)

set_option maxHeartbeats 8000000 in
set_option maxRecDepth 100000 in
theorem check_any (s : Scn) (a : Pla) (w : World) (hs : ScAt w s a) :
    Calls Tryz.prog 12 #[SV s a] w fun e w' => e = .returned (.tuple #[.int .i64 (chk s).1, .int .i64 (chk s).2]) ∧ Below w.heap.size w w' := by
  have HB := Lib.hid (SBox.new w s a 36)
  have HN0 := Lib.hid (below_n1 w (.cells (SC s a) 36))
  have HS0 := Lib.hid (hs.on (below_n1 w (.cells (SC s a) 36)))
  clear hs
  obtain ⟨cs, hcs⟩ : ∃ cs : List Value, cs = (SC s a).toList := ⟨_, rfl⟩
  obtain ⟨hd, hhd⟩ : ∃ hd : List Value, hd = [.int .i64 s.w, .int .i64 s.h, .int .i64 s.sm, .int .i64 s.dp, .int .i64 s.fr, .int .i64 s.sh, .int .u64 s.sd, .int .i64 s.r, .int .i64 s.g, .int .i64 s.b] := ⟨_, rfl⟩
  have ecs : SV s a = .agg cs.toArray := by rw [hcs]
  have ehd : HS s = .agg hd.toArray := by rw [hhd]
  have HRG := Lib.hid (show ∀ y, Hid (SBox y w.heap.size s a) → y.rangeAt w.heap.size 0 cs from fun y h => by rw [hcs]; exact h.out.range)
  have HRH := Lib.hid (show ∀ y, Hid (SBox y w.heap.size s a) → y.rangeAt w.heap.size 0 hd from fun y h => by rw [hhd]; exact h.out.head)
  have HSD := Lib.hid (show (Tryz.prog.info? 36).map (·.size) = some cs.length by rw [hcs]; kernel_rfl)
  have HSH := Lib.hid (show (Tryz.prog.info? 28).map (·.size) = some hd.length by rw [hhd]; kernel_rfl)
  have HOH := Lib.hid (show ∀ y, Once y 41 #[.agg hd.toArray] #[] (hdB s) from fun y => by rw [← ehd]; exact once_head s y)
  have HOL := Lib.hid (show ∀ y, Once y 49 #[.agg cs.toArray] #[] (lnB s) from fun y => by rw [← ecs]; exact once_lens s a y)
  have HE := Lib.hid ecs
  have HRS := Lib.hid (show (Tryz.prog.info? 122).map (·.size) = some 2 by kernel_rfl)
  have HB2 : Hid (SBox (w.alloc (.cells cs.toArray 36)) w.heap.size s a) := by rw [hcs]; exact HB
  have HN : Hid (Below w.heap.size w (w.alloc (.cells cs.toArray 36))) := by rw [hcs]; exact HN0
  have HSA : Hid (ScAt (w.alloc (.cells cs.toArray 36)) s a) := by rw [hcs]; exact HS0
  rw [ecs]
  clear HB HN0 HS0 hcs hhd ecs ehd
  replace HB := HB2
  clear HB2
  go_enter Tryz.func12, Tryz.ntmps12
  go_wp2_with fail
  refine wp_region_held_drew (S := fun y => Hid (SBox y w.heap.size s a)) (by kernel_rfl) (Lib.hid (HB.out.on ((Below.refl _ _).drew))) (fun hS0 => ?_)
  refine wpAnyH_take (i := 0) (v := ?_) rfl (by kernel_rfl) (by kernel_rfl) (by kernel_rfl) (fun _ _ _ h => h) (Or.inl ⟨by kernel_rfl, by (intro wz hSz; go_simp; try with_reducible rfl)⟩) hS0 ?_
  go_simp
  refine wpAnyH_take (i := 1) (v := .agg hd.toArray) rfl (by kernel_rfl) (by kernel_rfl) (by kernel_rfl) (fun _ _ _ h => h) (yieldsIf_load_mid (by kernel_rfl) 28 (.tmp 8) rfl w.heap.size 0 rfl hd _ HRH.out Tryz.underlying28 rfl HSH.out) hS0 ?_
  go_simp
  refine wpAnyH_take (i := 2) (v := ?_) rfl (by kernel_rfl) (by kernel_rfl) (by kernel_rfl) (fun _ _ _ h => h) (Or.inl ⟨by kernel_rfl, by (intro wz hSz; go_simp; try with_reducible rfl)⟩) hS0 ?_
  go_simp
  refine wpAnyH_take (i := 5) (v := ?_) rfl (by kernel_rfl) (by kernel_rfl) (by kernel_rfl) (fun _ _ _ h => h) (Or.inl ⟨by kernel_rfl, by (intro wz hSz; go_simp; try with_reducible rfl)⟩) hS0 ?_
  go_simp
  refine wpAnyH_take (i := 6) (v := ?_) rfl (by kernel_rfl) (by kernel_rfl) (by kernel_rfl) (fun _ _ _ h => h) (Or.inl ⟨by kernel_rfl, by (intro wz hSz; have c13 := hSz.out.c13; have c14 := hSz.out.c14; have c15 := hSz.out.c15; have c16 := hSz.out.c16; go_simp; try with_reducible rfl)⟩) hS0 ?_
  go_simp
  refine wpAnyH_take (i := 7) (v := ?_) rfl (by kernel_rfl) (by kernel_rfl) (by kernel_rfl) (fun _ _ _ h => h) (Or.inl ⟨by kernel_rfl, by (intro wz hSz; go_simp; try with_reducible rfl)⟩) hS0 ?_
  go_simp
  refine wpAnyH_take (i := 8) (v := ?_) rfl (by kernel_rfl) (by kernel_rfl) (by kernel_rfl) (fun _ _ _ h => h) (Or.inl ⟨by kernel_rfl, by (intro wz hSz; go_simp; try with_reducible rfl)⟩) hS0 ?_
  go_simp
  refine wpAnyH_take (i := 11) (v := ?_) rfl (by kernel_rfl) (by kernel_rfl) (by kernel_rfl) (fun _ _ _ h => h) (Or.inl ⟨by kernel_rfl, by (intro wz hSz; go_simp; try with_reducible rfl)⟩) hS0 ?_
  go_simp
  refine wpAnyH_take (i := 12) (v := ?_) rfl (by kernel_rfl) (by kernel_rfl) (by kernel_rfl) (fun _ _ _ h => h) (Or.inl ⟨by kernel_rfl, by (intro wz hSz; have c13 := hSz.out.c13; have c14 := hSz.out.c14; have c15 := hSz.out.c15; have c16 := hSz.out.c16; go_simp; try with_reducible rfl)⟩) hS0 ?_
  go_simp
  refine wpAnyH_take (i := 13) (v := ?_) rfl (by kernel_rfl) (by kernel_rfl) (by kernel_rfl) (fun _ _ _ h => h) (Or.inl ⟨by kernel_rfl, by (intro wz hSz; go_simp; try with_reducible rfl)⟩) hS0 ?_
  go_simp
  refine wpAnyH_take (i := 14) (v := ?_) rfl (by kernel_rfl) (by kernel_rfl) (by kernel_rfl) (fun _ _ _ h => h) (Or.inl ⟨by kernel_rfl, by (intro wz hSz; go_simp; try with_reducible rfl)⟩) hS0 ?_
  go_simp
  refine wpAnyH_take (i := 17) (v := ?_) rfl (by kernel_rfl) (by kernel_rfl) (by kernel_rfl) (fun _ _ _ h => h) (Or.inl ⟨by kernel_rfl, by (intro wz hSz; go_simp; try with_reducible rfl)⟩) hS0 ?_
  go_simp
  refine wpAnyH_take (i := 18) (v := ?_) rfl (by kernel_rfl) (by kernel_rfl) (by kernel_rfl) (fun _ _ _ h => h) (Or.inl ⟨by kernel_rfl, by (intro wz hSz; have c13 := hSz.out.c13; have c14 := hSz.out.c14; have c15 := hSz.out.c15; have c16 := hSz.out.c16; go_simp; try with_reducible rfl)⟩) hS0 ?_
  go_simp
  refine wpAnyH_take (i := 19) (v := ?_) rfl (by kernel_rfl) (by kernel_rfl) (by kernel_rfl) (fun _ _ _ h => h) (Or.inl ⟨by kernel_rfl, by (intro wz hSz; go_simp; try with_reducible rfl)⟩) hS0 ?_
  go_simp
  refine wpAnyH_take (i := 20) (v := .agg cs.toArray) rfl (by kernel_rfl) (by kernel_rfl) (by kernel_rfl) (fun _ _ _ h => h) (yieldsIf_load_mid (by kernel_rfl) 36 (.tmp 1) rfl w.heap.size 0 rfl cs _ HRG.out Tryz.underlying36 rfl HSD.out) hS0 ?_
  go_simp
  refine wpAnyH_take (i := 21) (v := ?_) rfl (by kernel_rfl) (by kernel_rfl) (by kernel_rfl) (fun _ _ _ h => h) (Or.inl ⟨by kernel_rfl, by (intro wz hSz; go_simp; try with_reducible rfl)⟩) hS0 ?_
  go_simp
  refine wpAnyH_take (i := 24) (v := ?_) rfl (by kernel_rfl) (by kernel_rfl) (by kernel_rfl) (fun _ _ _ h => h) (Or.inl ⟨by kernel_rfl, by (intro wz hSz; go_simp; try with_reducible rfl)⟩) hS0 ?_
  go_simp
  refine wpAnyH_take (i := 25) (v := ?_) rfl (by kernel_rfl) (by kernel_rfl) (by kernel_rfl) (fun _ _ _ h => h) (Or.inl ⟨by kernel_rfl, by (intro wz hSz; have c13 := hSz.out.c13; have c14 := hSz.out.c14; have c15 := hSz.out.c15; have c16 := hSz.out.c16; go_simp; try with_reducible rfl)⟩) hS0 ?_
  go_simp
  refine wpAnyH_take (i := 26) (v := ?_) rfl (by kernel_rfl) (by kernel_rfl) (by kernel_rfl) (fun _ _ _ h => h) (Or.inl ⟨by kernel_rfl, by (intro wz hSz; go_simp; try with_reducible rfl)⟩) hS0 ?_
  go_simp
  refine wpAnyH_take (i := 27) (v := .agg cs.toArray) rfl (by kernel_rfl) (by kernel_rfl) (by kernel_rfl) (fun _ _ _ h => h) (yieldsIf_load_mid (by kernel_rfl) 36 (.tmp 1) rfl w.heap.size 0 rfl cs _ HRG.out Tryz.underlying36 rfl HSD.out) hS0 ?_
  go_simp
  refine wpAnyH_take (i := 28) (v := ?_) rfl (by kernel_rfl) (by kernel_rfl) (by kernel_rfl) (fun _ _ _ h => h) (Or.inl ⟨by kernel_rfl, by (intro wz hSz; go_simp; try with_reducible rfl)⟩) hS0 ?_
  go_simp
  refine wpAnyH_take (i := 31) (v := .agg cs.toArray) rfl (by kernel_rfl) (by kernel_rfl) (by kernel_rfl) (fun _ _ _ h => h) (yieldsIf_load_mid (by kernel_rfl) 36 (.tmp 1) rfl w.heap.size 0 rfl cs _ HRG.out Tryz.underlying36 rfl HSD.out) hS0 ?_
  go_simp
  refine wpAnyH_take (i := 32) (v := ?_) rfl (by kernel_rfl) (by kernel_rfl) (by kernel_rfl) (fun _ _ _ h => h) (Or.inl ⟨by kernel_rfl, by (intro wz hSz; go_simp; try with_reducible rfl)⟩) hS0 ?_
  go_simp
  refine wpAnyH_take (i := 35) (v := .agg cs.toArray) rfl (by kernel_rfl) (by kernel_rfl) (by kernel_rfl) (fun _ _ _ h => h) (yieldsIf_load_mid (by kernel_rfl) 36 (.tmp 1) rfl w.heap.size 0 rfl cs _ HRG.out Tryz.underlying36 rfl HSD.out) hS0 ?_
  go_simp
  refine wpAnyH_take (i := 36) (v := ?_) rfl (by kernel_rfl) (by kernel_rfl) (by kernel_rfl) (fun _ _ _ h => h) (Or.inl ⟨by kernel_rfl, by (intro wz hSz; go_simp; try with_reducible rfl)⟩) hS0 ?_
  go_simp
  refine wpAnyH_take (i := 37) (v := ?_) rfl (by kernel_rfl) (by kernel_rfl) (by kernel_rfl) (fun _ _ _ h => h) (Or.inl ⟨by kernel_rfl, by (intro wz hSz; go_simp; try with_reducible rfl)⟩) hS0 ?_
  go_simp
  refine wpAnyH_ready (rs := [3]) (by kernel_rfl) (by simp) ?_
  refine AllReadyH.cons rfl (fun K hK => ?_) AllReadyH.nil
  go_simp
  go_wp2_with (go_at_call 40; refine (alone_any _ _ _ _ ent_head _ (HOH.out _)).mono ?_; rintro e y1 ⟨⟨q1, rfl, hw1⟩, hb1⟩)
  have hT1 := Lib.hid (hS0.out.on hb1)
  refine hK.out _ _ (hT1) (fun hS1 => ?_)
  clear hK K
  refine wpAnyH_take (i := 4) (v := ?_) rfl (by kernel_rfl) (by kernel_rfl) (by kernel_rfl) (fun _ _ _ h => h) (Or.inl ⟨by kernel_rfl, by (intro wz hSz; go_simp; try with_reducible rfl)⟩) hS1 ?_
  go_simp
  refine wpAnyH_ready (rs := [9]) (by kernel_rfl) (by simp) ?_
  refine AllReadyH.cons rfl (fun K hK => ?_) AllReadyH.nil
  go_simp
  go_wp2_with (go_at_call 42; refine (each_any _ _ _ _ _ _).mono ?_; rintro e y2 ⟨⟨rfl, hE2⟩, hb2⟩)
  have hT2 := Lib.hid (hS1.out.on hb2)
  refine hK.out _ _ (hT2) (fun hS2 => ?_)
  clear hK K
  refine wpAnyH_take (i := 10) (v := ?_) rfl (by kernel_rfl) (by kernel_rfl) (by kernel_rfl) (fun _ _ _ h => h) (Or.inl ⟨by kernel_rfl, by (intro wz hSz; go_simp; try with_reducible rfl)⟩) hS2 ?_
  go_simp
  refine wpAnyH_ready (rs := [15]) (by kernel_rfl) (by simp) ?_
  refine AllReadyH.cons rfl (fun K hK => ?_) AllReadyH.nil
  go_simp
  go_wp2_with (go_at_call 42; refine (each_any _ _ _ _ _ _).mono ?_; rintro e y3 ⟨⟨rfl, hE3⟩, hb3⟩)
  have hT3 := Lib.hid (hS2.out.on hb3)
  refine hK.out _ _ (hT3) (fun hS3 => ?_)
  clear hK K
  refine wpAnyH_take (i := 16) (v := ?_) rfl (by kernel_rfl) (by kernel_rfl) (by kernel_rfl) (fun _ _ _ h => h) (Or.inl ⟨by kernel_rfl, by (intro wz hSz; go_simp; try with_reducible rfl)⟩) hS3 ?_
  go_simp
  refine wpAnyH_ready (rs := [22]) (by kernel_rfl) (by simp) ?_
  refine AllReadyH.cons rfl (fun K hK => ?_) AllReadyH.nil
  go_simp
  go_wp2_with (go_at_call 42; refine (each_any _ _ _ _ _ _).mono ?_; rintro e y4 ⟨⟨rfl, hE4⟩, hb4⟩)
  have hT4 := Lib.hid (hS3.out.on hb4)
  refine hK.out _ _ (hT4) (fun hS4 => ?_)
  clear hK K
  refine wpAnyH_take (i := 23) (v := ?_) rfl (by kernel_rfl) (by kernel_rfl) (by kernel_rfl) (fun _ _ _ h => h) (Or.inl ⟨by kernel_rfl, by (intro wz hSz; go_simp; try with_reducible rfl)⟩) hS4 ?_
  go_simp
  refine wpAnyH_ready (rs := [29]) (by kernel_rfl) (by simp) ?_
  refine AllReadyH.cons rfl (fun K hK => ?_) AllReadyH.nil
  go_simp
  go_wp2_with (go_at_call 42; refine (each_any _ _ _ _ _ _).mono ?_; rintro e y5 ⟨⟨rfl, hE5⟩, hb5⟩)
  have hT5 := Lib.hid (hS4.out.on hb5)
  refine hK.out _ _ (hT5) (fun hS5 => ?_)
  clear hK K
  refine wpAnyH_take (i := 30) (v := ?_) rfl (by kernel_rfl) (by kernel_rfl) (by kernel_rfl) (fun _ _ _ h => h) (Or.inl ⟨by kernel_rfl, by (intro wz hSz; go_simp; try with_reducible rfl)⟩) hS5 ?_
  go_simp
  refine wpAnyH_ready (rs := [33]) (by kernel_rfl) (by simp) ?_
  refine AllReadyH.cons rfl (fun K hK => ?_) AllReadyH.nil
  go_simp
  go_wp2_with (go_at_call 40; refine (alone_any _ _ _ _ ent_lens _ (HOL.out _)).mono ?_; rintro e y6 ⟨⟨q6, rfl, hw6⟩, hb6⟩)
  have hT6 := Lib.hid (hS5.out.on hb6)
  refine hK.out _ _ (hT6) (fun hS6 => ?_)
  clear hK K
  refine wpAnyH_take (i := 34) (v := ?_) rfl (by kernel_rfl) (by kernel_rfl) (by kernel_rfl) (fun _ _ _ h => h) (Or.inl ⟨by kernel_rfl, by (intro wz hSz; go_simp; try with_reducible rfl)⟩) hS6 ?_
  go_simp
  refine wpAnyH_ready (rs := [38]) (by kernel_rfl) (by simp) ?_
  refine AllReadyH.cons rfl (fun K hK => ?_) AllReadyH.nil
  go_simp
  (try go_wp2_with fail)
  refine hK.out _ _ (Lib.hid (hS6.out.on (below_n1 _ _))) (fun hS7 => ?_)
  clear hK K
  refine wpAnyH_take (i := 39) (v := ?_) rfl (by kernel_rfl) (by kernel_rfl) (by kernel_rfl) (fun _ _ _ h => h) (Or.inl ⟨by kernel_rfl, by (intro wz hSz; go_simp; try with_reducible rfl)⟩) hS7 ?_
  go_simp
  refine wpAnyH_done (by kernel_rfl) ?_ _
  have bF6 := below_n1 y6 (.cells #[.int .i64 21, EF q1, .int .i64 22, EF y1.heap.size, .int .i64 23, EF y2.heap.size, .int .i64 24, EF y3.heap.size, .int .i64 25, EF y4.heap.size, .int .i64 26, EF q6, .int .i64 27, .func (.func 50) #[.agg cs.toArray] #[]] 122)
  have hR0 : ∀ k, k < 7 → ∃ u, (y6.alloc (.cells #[.int .i64 21, EF q1, .int .i64 22, EF y1.heap.size, .int .i64 23, EF y2.heap.size, .int .i64 24, EF y3.heap.size, .int .i64 25, EF y4.heap.size, .int .i64 26, EF q6, .int .i64 27, .func (.func 50) #[.agg cs.toArray] #[]] 122)).cell? ⟨y6.heap.size, k * 2, none⟩ = some (.int .i64 (21 + (k : Int))) ∧ (y6.alloc (.cells #[.int .i64 21, EF q1, .int .i64 22, EF y1.heap.size, .int .i64 23, EF y2.heap.size, .int .i64 24, EF y3.heap.size, .int .i64 25, EF y4.heap.size, .int .i64 26, EF q6, .int .i64 27, .func (.func 50) #[.agg cs.toArray] #[]] 122)).cell? ⟨y6.heap.size, k * 2 + 1, none⟩ = some u ∧ #[.int .i64 21, EF q1, .int .i64 22, EF y1.heap.size, .int .i64 23, EF y2.heap.size, .int .i64 24, EF y3.heap.size, .int .i64 25, EF y4.heap.size, .int .i64 26, EF q6, .int .i64 27, .func (.func 50) #[.agg cs.toArray] #[]][k * 2 + 1]? = some u := by
    intro k hk
    match k, hk with
    | 0, _ => exact ⟨_, by simp [go_sem], by simp [go_sem], rfl⟩
    | 1, _ => exact ⟨_, by simp [go_sem], by simp [go_sem], rfl⟩
    | 2, _ => exact ⟨_, by simp [go_sem], by simp [go_sem], rfl⟩
    | 3, _ => exact ⟨_, by simp [go_sem], by simp [go_sem], rfl⟩
    | 4, _ => exact ⟨_, by simp [go_sem], by simp [go_sem], rfl⟩
    | 5, _ => exact ⟨_, by simp [go_sem], by simp [go_sem], rfl⟩
    | 6, _ => exact ⟨_, by simp [go_sem], by simp [go_sem], rfl⟩
  have hRz : y6.heap.size < (y6.alloc (.cells #[.int .i64 21, EF q1, .int .i64 22, EF y1.heap.size, .int .i64 23, EF y2.heap.size, .int .i64 24, EF y3.heap.size, .int .i64 25, EF y4.heap.size, .int .i64 26, EF q6, .int .i64 27, .func (.func 50) #[.agg cs.toArray] #[]] 122)).heap.size := by simp
  obtain ⟨R, hR⟩ : ∃ R, R = y6.heap.size := ⟨_, rfl⟩
  obtain ⟨yF, hyF⟩ : ∃ yF, yF = y6.alloc (.cells #[.int .i64 21, EF q1, .int .i64 22, EF y1.heap.size, .int .i64 23, EF y2.heap.size, .int .i64 24, EF y3.heap.size, .int .i64 25, EF y4.heap.size, .int .i64 26, EF q6, .int .i64 27, .func (.func 50) #[.agg cs.toArray] #[]] 122) := ⟨_, rfl⟩
  rw [← hyF] at bF6 hR0 hRz hS7 ⊢
  have bF5 := hb6.trans (bF6.mono hb6.size)
  have bF4 := hb5.trans (bF5.mono hb5.size)
  have bF3 := hb4.trans (bF4.mono hb4.size)
  have bF2 := hb3.trans (bF3.mono hb3.size)
  have bF1 := hb2.trans (bF2.mono hb2.size)
  have bF0 := hb1.trans (bF1.mono hb1.size)
  have hsF : ScAt yF s a := HSA.out.on ((Below.refl _ _).drew.trans bF0)
  have HbF : Hid (Below w.heap.size w yF) := Lib.hid (HN.out.drew.trans (bF0.mono HN.out.size))
  have HR : Hid (Rules yF y6.heap.size s) := by
    refine Lib.hid ⟨hRz, fun k hk => ?_⟩
    obtain ⟨u, h1, h2, h3⟩ := hR0 k hk
    match k, hk with
    | 0, _ => simp at h3; subst h3; exact ⟨_, _, _, h1, h2, ent_each1, hw1.on bF1⟩
    | 1, _ => simp at h3; subst h3; exact ⟨_, _, _, h1, h2, ent_each1, each1_where _ s.np 32 _ _ _ (pB s) ent_c1 (by omega) yF (hE2.on bF2) (fun _ => asks_paint s a _ yF hsF hS7.out)⟩
    | 2, _ => simp at h3; subst h3; exact ⟨_, _, _, h1, h2, ent_each1, each1_where _ s.nt 32 _ _ _ (tB s) ent_c2 (by omega) yF (hE3.on bF3) (fun _ => asks_track s a _ yF hsF hS7.out)⟩
    | 3, _ => simp at h3; subst h3; exact ⟨_, _, _, h1, h2, ent_each1, each1_where _ s.nj 32 _ _ _ (jB s) ent_joint (by omega) yF (hE4.on bF4) (fun _ => by have := asks_joint s a yF hsF; rwa [HE.out] at this)⟩
    | 4, _ => simp at h3; subst h3; exact ⟨_, _, _, h1, h2, ent_each1, each1_where _ s.ns 128 _ _ _ (sB s) ent_shape (by omega) yF (hE5.on bF5) (fun _ => by have := asks_shape s a yF hsF; rwa [HE.out] at this)⟩
    | 5, _ => simp at h3; subst h3; exact ⟨_, _, _, h1, h2, ent_each1, hw6.on bF6⟩
    | 6, _ => simp at h3; subst h3; exact ⟨_, _, _, h1, h2, ent_many, by have := where_many s a yF hsF; rwa [HE.out] at this⟩
  rw [← hR] at HR
  rw [← hR]
  clear hR0 hRz hR hyF bF6 bF5 bF4 bF3 bF2 bF1 bF0 hw1 hw6 hE2 hE3 hE4 hE5 hb1 hb2 hb3 hb4 hb5 hb6 hT1 hT2 hT3 hT4 hT5 hT6 hS0 hS1 hS2 hS3 hS4 hS5 hS6 hS7 HB HSA HN HE HOH HOL HSD HSH HRG HRH hsF
  go_wp2_with fail
  go_loopw [49] (fun i wr => ∃ k : Nat, k ≤ 7 ∧ i = .int .i64 k ∧ Hid (∀ j, j < k → wh s j = -1) ∧ Hid (Rules wr R s) ∧ Below w.heap.size w wr) (fun i _ => 7 - (intOf i).toNat)
  case atStart => exact ⟨0, Nat.zero_le _, rfl, Lib.hid (fun j hj => by omega), HR, HbF.out⟩
  case round =>
    obtain ⟨k, hk, rfl, HK, HU, hbk⟩ := hrel
    by_cases hlt : k < 7
    · have hlt' : (k : Int) < 7 := by omega
      obtain ⟨hRw, hU⟩ := HU.out
      obtain ⟨g, lb, fs, c0, c1, hg, hW⟩ := hU k hlt
      have hg' : ∀ args W, (callFunc g args).run Tryz.prog W = .ok (.enter g args) W := hg
      have HW := Lib.hid hW
      obtain ⟨ec, hec⟩ : ∃ ec : Int, ec = 21 + (k : Int) := ⟨_, rfl⟩
      rw [← hec] at c0
      have HEC := Lib.hid hec
      have HE0 := Lib.hid (show (wr.alloc (.cells #[.int .i64 ec, .func (.func g) lb fs] 122)).cell? ⟨wr.heap.size, 0, none⟩ = some (.int .i64 ec) by simp [go_sem])
      clear hU hW hg hec
      obtain ⟨z, hz⟩ : ∃ z, wh s k = z := ⟨_, rfl⟩
      have HZ := Lib.hid hz
      clear hz
      have hone := store_rule wr ec g lb fs 122
      go_wp2_with fail
      refine (HW.out _ (below_n1 _ _)).mono ?_
      rintro e w1 ⟨rfl, hb1⟩
      rw [HZ.out]
      have d0 := held_on hb1 HE0.out
      have hm1 := (below_n1 wr (.cells #[.int .i64 ec, .func (.func g) lb fs] 122)).trans (hb1.mono (by simp))
      have hb2 := hbk.trans (hm1.mono hbk.size)
      have HU2 := Lib.hid (HU.out.on hm1)
      clear HU
      by_cases h1 : z = -1
      · subst h1
        go_wp2
        go_roundw
        case rel => exact ⟨k + 1, by omega, by go_num, Lib.hid (whs_snoc HK.out HZ.out), HU2, hb2⟩
        case measure => simp [intOf]; omega
      · have HC := Lib.hid (chk_bad hlt HK.out (by rw [HZ.out]; exact h1))
        go_wp2
        exact bodyPost_ret (v := .tuple #[.int .i64 ec, .int .i64 z]) (by simp [results, Tryz.results12, go_sem]) rfl ⟨by rw [HC.out, HZ.out, ← HEC.out], hb2⟩
    · obtain rfl : k = 7 := by omega
      have HC := Lib.hid (chk_none HK.out)
      go_wp2
      exact bodyPost_ret (v := .tuple #[.int .i64 0, .int .i64 0]) (by simp [results, Tryz.results12, go_sem]) rfl ⟨by rw [HC.out], hbk⟩

end Go.Proofs.YtplcbdmiccpnnaaGreat.Sc

/- Scenes: boxes changed in one cell. -/
namespace Go.Proofs.YtplcbdmiccpnnaaGreat.Sc
open Go.RowKit Go.Proofs.YtplcbdmiccpnnaaGreat Go.Proofs.YtplcbdmiccpnnaaGreat.Wa Go.Proofs.YtplcbdmiccpnnaaGreat.Ve Go.Proofs.YtplcbdmiccpnnaaGreat.Tk Go.Proofs.YtplcbdmiccpnnaaGreat.Ls
set_option linter.unusedVariables false

theorem sbox_heap {w : World} {q : Nat} {s : Scn} {a : Pla} {t : TypeId} {fr : Nat × Nat} (h : w.heap[q]? = some (.cells (SC s a) t fr)) : SBox w q s a := by
  have hc : ∀ i, w.cell? ⟨q, i, none⟩ = (SC s a)[i]? := fun i => cell_of_row _ _ i _ _ _ h
  refine ⟨?_, ?_⟩
  · rcases Nat.lt_or_ge q w.heap.size with h' | h'
    · exact h'
    · rw [Array.getElem?_eq_none h'] at h; cases h
  · rw [hc, hc, hc, hc, hc, hc, hc, hc, hc, hc, hc, hc, hc, hc, hc, hc, hc]
    exact ⟨rfl, rfl, rfl, rfl, rfl, rfl, rfl, rfl, rfl, rfl, rfl, rfl, rfl, rfl, rfl, rfl, rfl⟩

/-- the shapes' slice is another one -/
theorem SBox.shapes {w : World} {q : Nat} {s : Scn} {a : Pla} (h : SBox w q s a) (sa : Option Addr) (n sc : Nat) : SBox (w.setCell ⟨q, 16, none⟩ (.slice sa n sc)) q { s with ns := n } { a with sa := sa, sc := sc } :=
  ⟨by rw [World.size_setCell]; exact h.1, OB.putS (pv := .slice a.pa s.np a.pc) (tv := .slice a.ta s.nt a.tc) (jv := .slice a.ja s.nj a.jc) (sv := .slice a.sa s.ns a.sc) h.2 (.slice sa n sc)⟩

/-- the paints' slice is another one -/
theorem SBox.paints {w : World} {q : Nat} {s : Scn} {a : Pla} (h : SBox w q s a) (pa : Option Addr) (n pc : Nat) (P : Nat → Int) : SBox (w.setCell ⟨q, 13, none⟩ (.slice pa n pc)) q { s with np := n, P := P } { a with pa := pa, pc := pc } :=
  ⟨by rw [World.size_setCell]; exact h.1, OB.putP (pv := .slice a.pa s.np a.pc) (tv := .slice a.ta s.nt a.tc) (jv := .slice a.ja s.nj a.jc) (sv := .slice a.sa s.ns a.sc) h.2 (.slice pa n pc)⟩

theorem SBox.frames {w : World} {q : Nat} {s : Scn} {a : Pla} (h : SBox w q s a) : SBox (w.setCell ⟨q, 4, none⟩ (.int .i64 1)) q (oneF s) a := by
  obtain ⟨h0, g0, g1, g2, g3, g4, g5, g6, g7, g8, g9, g10, g11, g12, g13, g14, g15, g16⟩ := h
  refine ⟨by rw [World.size_setCell]; exact h0, ?_⟩
  simp only [cset g4]
  exact ⟨g0, g1, g2, g3, rfl, g5, g6, g7, g8, g9, g10, g11, g12, g13, g14, g15, g16⟩

theorem Nums.less {c : Nat} {w : World} {a : Option Addr} {n m : Nat} {L : Nat → Int} (h : Nums c w a n L) (hm : m ≤ n) : Nums c w a m L := by
  obtain ⟨h0, h | ⟨b, off, e, hlt, hc⟩⟩ := h
  · exact ⟨Nat.le_trans (Nat.mul_le_mul_right _ hm) h0, .inl (by omega)⟩
  · exact ⟨Nat.le_trans (Nat.mul_le_mul_right _ hm) h0, .inr ⟨b, off, e, hlt, fun j hj => hc j (Nat.lt_of_lt_of_le hj (Nat.mul_le_mul_right _ hm))⟩⟩

theorem ScAt.lessS {w : World} {s : Scn} {a : Pla} (h : ScAt w s a) (sc : Nat) : ScAt w (lessS s) { a with sc := sc } := ⟨h.p, h.t, h.j, h.sh.less (by show s.ns - 1 ≤ s.ns; omega), h.sd⟩

theorem ScAt.one {w : World} {s : Scn} {a : Pla} (h : ScAt w s a) : ScAt w (oneF s) a := ⟨h.p, h.t, h.j, h.sh, h.sd⟩

/-- what stands in cells of no block that has changed -/
theorem ScAt.far {w w' : World} {s : Scn} {a : Pla} {N : Nat} (h : ScAt w s a) (hb : Below N w w') (hw : w.heap.size ≤ N) : ScAt w' s a := h.on (hb.mono hw)

end Go.Proofs.YtplcbdmiccpnnaaGreat.Sc
