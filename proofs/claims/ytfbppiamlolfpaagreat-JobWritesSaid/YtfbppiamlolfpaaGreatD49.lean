/- The contracts of a law's own keys and tracks: what came in, as the program's. -/
import Derived.Test.YtfbppiamlolfpaaGreatD12
import Derived.Test.YtfbppiamlolfpaaGreatD11
import Derived.Test.YtfbppiamlolfpaaGreatD26
import Derived.Deep.AppendLies
namespace Go.Proofs.YtfbppiamlolfpaaGreat.Tk
open Go.RowKit Go.Proofs.YtfbppiamlolfpaaGreat Go.Proofs.YtfbppiamlolfpaaGreat.Wa Go.Proofs.YtfbppiamlolfpaaGreat.Ve Go.Proofs.YtfbppiamlolfpaaGreat.Ls

/-- the values of a row's numbers -/
def flat4 (L : Nat → Int) (k : Nat) : List Value := (List.range (k * 4)).map fun j => .int .i64 (L j)

theorem flat4_step (L : Nat → Int) (k : Nat) : flat4 L (k + 1) = flat4 L k ++ [.int .i64 (L (k * 4)), .int .i64 (L (k * 4 + 1)), .int .i64 (L (k * 4 + 2)), .int .i64 (L (k * 4 + 3))] := by
  simp [flat4, show (k + 1) * 4 = k * 4 + 1 + 1 + 1 + 1 by omega, List.range_succ]

theorem flat4_at (L : Nat → Int) (k j : Nat) (h : j < k * 4) : (flat4 L k)[j]? = some (.int .i64 (L j)) := by
  simp [flat4, h]

theorem infoKey : (Tryz.prog.info? 164).map (fun i => (i.zero, i.size, i.bytes)) = some (some (.agg #[.int .i64 0, .int .i64 0, .int .i64 0, .int .i64 0]), 4, 32) := by kernel_rfl

theorem own_keys {w : World} {base n : Nat} {e : TypeId} {v : Value} {L : Nat → Int} (hn : n * 32 ≤ 140737488351232) (h : w.ownsRow base e 4 v n (flat4 L n)) : ∃ a cap, v = .slice a n cap ∧ KeysAt w a n L ∧ ∀ p, a = some p → base ≤ p.block := by
  rcases h.2 with ⟨hv, h0⟩ | ⟨g, cap, cur, rfl, -, -, -, -, -, -⟩
  · subst h0; exact ⟨none, 0, hv, ⟨hn, .inl rfl⟩, fun p hp => by cases hp⟩
  · exact ⟨some ⟨g, 0, none⟩, cap, rfl, ⟨hn, .inr ⟨g, 0, rfl, (h.lt g rfl).2, fun j hj => by rw [Nat.zero_add]; exact (h.cellAt j hj).trans (flat4_at L n j hj)⟩⟩, fun p hp => by cases hp; exact (h.lt g rfl).1⟩

set_option maxHeartbeats 4000000 in
set_option maxRecDepth 100000 in
theorem keys_any (a : Option Addr) (n cap : Nat) (L : Nat → Int) (w : World) (hr : KeysAt w a n L) :
    Calls Tryz.prog 57 #[.slice a n cap] w fun e w' => (∃ a' cap', e = .returned (.slice a' n cap') ∧ KeysAt w' a' n L ∧ ∀ p, a' = some p → w.heap.size ≤ p.block) ∧ Below w.heap.size w w' := by
  obtain ⟨i0, hi, hz0, hz1, hz2⟩ := info_parts infoKey
  have hn := hr.1
  have HR := Lib.hid hr
  clear hr
  go_enter Tryz.func57, Tryz.ntmps57
  go_wp2_with fail
  go_loopw [3, 8] (fun s i wr => ∃ k : Nat, k ≤ n ∧ i = .int .i64 k ∧ Hid (wr.ownsRow w.heap.size 164 4 s k (flat4 L k)) ∧ Below w.heap.size w wr) (fun _ i _ => n - (intOf i).toNat)
  case atStart => exact ⟨0, Nat.zero_le _, rfl, Lib.hid (World.ownsRow_nil _ _ _ _), Below.refl _ _⟩
  case round =>
    obtain ⟨k, hk, rfl, HI, hbk⟩ := hrel
    by_cases hlt : k < n
    · obtain ⟨-, h' | ⟨b, off, rfl, hb, hc⟩⟩ := HR.out
      · omega
      have hlt' : (k : Int) < n := by omega
      obtain ⟨c0, c1, c2, c3⟩ := four_of hc hlt
      replace c0 := held_on hbk c0
      replace c1 := held_on hbk c1
      replace c2 := held_on hbk c2
      replace c3 := held_on hbk c3
      clear hc
      have hbd := (hbk.alloc hbk.size (Obj.cells #[.int .i64 (L (k * 4)), .int .i64 (L (k * 4 + 1)), .int .i64 (L (k * 4 + 2)), .int .i64 (L (k * 4 + 3))] 103)).drew
      have HI1 := Lib.hid (own_below HI.out ((below_n1 wr (Obj.cells #[.int .i64 (L (k * 4)), .int .i64 (L (k * 4 + 1)), .int .i64 (L (k * 4 + 2)), .int .i64 (L (k * 4 + 3))] 103)).drew))
      have e0 : (wr.alloc (Obj.cells #[.int .i64 (L (k * 4)), .int .i64 (L (k * 4 + 1)), .int .i64 (L (k * 4 + 2)), .int .i64 (L (k * 4 + 3))] 103)).drew.cell? ⟨wr.heap.size, 0, none⟩ = some (.int .i64 (L (k * 4))) := by simp [go_sem]
      go_wp2_with fail
      refine wp_region_any (by kernel_rfl) ?_
      (try (change wpAny _ _ _ _ _ _ _ (World.drew _)))
      refine wpAny_take (i := 0) (v := ?_) rfl (by kernel_rfl) (by kernel_rfl) (by kernel_rfl) (fun _ _ _ h => h) (Or.inl ⟨by kernel_rfl, by (intro w; go_simp; try with_reducible rfl)⟩) ?_
      go_simp
      refine wpAny_take (i := 1) (v := ?_) rfl (by kernel_rfl) (by kernel_rfl) (by kernel_rfl) (fun _ _ _ h => h) (Or.inl ⟨by kernel_rfl, by (intro w; go_simp; try with_reducible rfl)⟩) ?_
      go_simp
      refine wpAny_take (i := 3) (v := ?_) rfl (by kernel_rfl) (by kernel_rfl) (by kernel_rfl) (fun _ _ _ h => h) (Or.inl ⟨by kernel_rfl, by (intro w; go_simp; try with_reducible rfl)⟩) ?_
      go_simp
      refine wpAny_ready (rs := [2, 4]) (by kernel_rfl) (by simp) ?_
      refine AllReady.cons rfl (fun K hK => ?_) (AllReady.cons rfl (fun K hK => ?_) AllReady.nil)
      · skip
        go_simp
        (refine hK _ _ ?_; clear hK K)
        refine wpAny_ready (rs := [4]) (by kernel_rfl) (by simp) ?_
        refine AllReady.cons rfl (fun K hK => ?_) AllReady.nil
        go_simp
        (refine hK _ _ ?_; clear hK K)
        refine wpAny_ready (rs := [5]) (by kernel_rfl) (by simp) ?_
        refine AllReady.cons rfl (fun K hK => ?_) AllReady.nil
        go_simp
        go_wp2_with (go_at_call 21; refine (to_any _ _ _ _).mono ?_; rintro e w1 ⟨rfl, hb1⟩; obtain ⟨hc1, hf1⟩ := bcell hb1; have d0 := held_on hb1 e0)
        refine wpAny_take (i := 6) (v := ?_) rfl (by kernel_rfl) (by kernel_rfl) (by kernel_rfl) (fun _ _ _ h => h) (Or.inl ⟨by kernel_rfl, by (intro w; go_simp; try with_reducible rfl)⟩) ?_
        go_simp
        refine wpAny_ready (rs := [7]) (by kernel_rfl) (by simp) ?_
        refine AllReady.cons rfl (fun K hK => ?_) AllReady.nil
        go_simp
        (refine hK _ _ ?_; clear hK K)
        refine wpAny_ready (rs := [8]) (by kernel_rfl) (by simp) ?_
        refine AllReady.cons rfl (fun K hK => ?_) AllReady.nil
        have HI2 := own_below HI1.out hb1
        have bw1 := hbd.trans (hb1.mono hbd.size)
        have zz := hb1.size
        refine step_append_lies _ rfl _ _ 79 rfl w.heap.size 164 i0 (.agg #[.int .i64 0, .int .i64 0, .int .i64 0, .int .i64 0]) 4 32 Tryz.underlying79 hi hz0 hz1 hz2 rfl (by decide) _ _ _ rfl (HI2.alloc _) ⟨w1.heap.size, 0, none⟩ 1 1 [.int .i64 (L (k * 4)), .int .i64 (L (k * 4 + 1)), .int .i64 (L (k * 4 + 2)), .int .i64 (L (k * 4 + 3))] rfl rfl ?c1 ?c2 (by omega) ?c3 ?c4 ?c5 _ rfl ?_
        case c1 =>
          intro j u hj
          match j, hj with
          | 0, hj => simp at hj; subst hj; simp [Addr.add]
          | 1, hj => simp at hj; subst hj; simp [Addr.add]
          | 2, hj => simp at hj; subst hj; simp [Addr.add]
          | 3, hj => simp at hj; subst hj; simp [Addr.add]
        case c2 => intro u hu; simp at hu; rcases hu with rfl | rfl | rfl | rfl <;> rfl
        case c3 => unfold maxLen; omega
        case c4 => omega
        case c5 => have := bw1.size; simp; omega
        intro g cg w2 hown hgrow hat hlt
        refine hK _ _ ?_
        clear hK K
        rw [← flat4_step] at hown
        have hb2 : Below w.heap.size w w2 := (bw1.alloc bw1.size _).grown hgrow (Nat.le_trans bw1.size (by simp)) (fun q hq => (HI2.lt q hq).1)
        refine wpAny_take (i := 9) (v := ?_) rfl (by kernel_rfl) (by kernel_rfl) (by kernel_rfl) (fun _ _ _ h => h) (Or.inl ⟨by kernel_rfl, by (intro w; go_simp; try with_reducible rfl)⟩) ?_
        go_simp
        refine wpAny_done (by kernel_rfl) ?_ _
        go_wp2
        go_roundw
        case rel => exact ⟨k + 1, by omega, by go_num, Lib.hid hown, hb2⟩
        case measure => simp [intOf]; omega
      · skip
        go_simp
        (refine hK _ _ ?_; clear hK K)
        refine wpAny_ready (rs := [2, 5]) (by kernel_rfl) (by simp) ?_
        refine AllReady.cons rfl (fun K hK => ?_) (AllReady.cons rfl (fun K hK => ?_) AllReady.nil)
        · skip
          go_simp
          (refine hK _ _ ?_; clear hK K)
          refine wpAny_ready (rs := [5]) (by kernel_rfl) (by simp) ?_
          refine AllReady.cons rfl (fun K hK => ?_) AllReady.nil
          go_simp
          go_wp2_with (go_at_call 21; refine (to_any _ _ _ _).mono ?_; rintro e w1 ⟨rfl, hb1⟩; obtain ⟨hc1, hf1⟩ := bcell hb1; have d0 := held_on hb1 e0)
          refine wpAny_take (i := 6) (v := ?_) rfl (by kernel_rfl) (by kernel_rfl) (by kernel_rfl) (fun _ _ _ h => h) (Or.inl ⟨by kernel_rfl, by (intro w; go_simp; try with_reducible rfl)⟩) ?_
          go_simp
          refine wpAny_ready (rs := [7]) (by kernel_rfl) (by simp) ?_
          refine AllReady.cons rfl (fun K hK => ?_) AllReady.nil
          go_simp
          (refine hK _ _ ?_; clear hK K)
          refine wpAny_ready (rs := [8]) (by kernel_rfl) (by simp) ?_
          refine AllReady.cons rfl (fun K hK => ?_) AllReady.nil
          have HI2 := own_below HI1.out hb1
          have bw1 := hbd.trans (hb1.mono hbd.size)
          have zz := hb1.size
          refine step_append_lies _ rfl _ _ 79 rfl w.heap.size 164 i0 (.agg #[.int .i64 0, .int .i64 0, .int .i64 0, .int .i64 0]) 4 32 Tryz.underlying79 hi hz0 hz1 hz2 rfl (by decide) _ _ _ rfl (HI2.alloc _) ⟨w1.heap.size, 0, none⟩ 1 1 [.int .i64 (L (k * 4)), .int .i64 (L (k * 4 + 1)), .int .i64 (L (k * 4 + 2)), .int .i64 (L (k * 4 + 3))] rfl rfl ?c1 ?c2 (by omega) ?c3 ?c4 ?c5 _ rfl ?_
          case c1 =>
            intro j u hj
            match j, hj with
            | 0, hj => simp at hj; subst hj; simp [Addr.add]
            | 1, hj => simp at hj; subst hj; simp [Addr.add]
            | 2, hj => simp at hj; subst hj; simp [Addr.add]
            | 3, hj => simp at hj; subst hj; simp [Addr.add]
          case c2 => intro u hu; simp at hu; rcases hu with rfl | rfl | rfl | rfl <;> rfl
          case c3 => unfold maxLen; omega
          case c4 => omega
          case c5 => have := bw1.size; simp; omega
          intro g cg w2 hown hgrow hat hlt
          refine hK _ _ ?_
          clear hK K
          rw [← flat4_step] at hown
          have hb2 : Below w.heap.size w w2 := (bw1.alloc bw1.size _).grown hgrow (Nat.le_trans bw1.size (by simp)) (fun q hq => (HI2.lt q hq).1)
          refine wpAny_take (i := 9) (v := ?_) rfl (by kernel_rfl) (by kernel_rfl) (by kernel_rfl) (fun _ _ _ h => h) (Or.inl ⟨by kernel_rfl, by (intro w; go_simp; try with_reducible rfl)⟩) ?_
          go_simp
          refine wpAny_done (by kernel_rfl) ?_ _
          go_wp2
          go_roundw
          case rel => exact ⟨k + 1, by omega, by go_num, Lib.hid hown, hb2⟩
          case measure => simp [intOf]; omega
        · skip
          go_simp
          go_wp2_with (go_at_call 21; refine (to_any _ _ _ _).mono ?_; rintro e w1 ⟨rfl, hb1⟩; obtain ⟨hc1, hf1⟩ := bcell hb1; have d0 := held_on hb1 e0)
          refine wpAny_ready (rs := [2]) (by kernel_rfl) (by simp) ?_
          refine AllReady.cons rfl (fun K hK => ?_) AllReady.nil
          go_simp
          (refine hK _ _ ?_; clear hK K)
          refine wpAny_take (i := 6) (v := ?_) rfl (by kernel_rfl) (by kernel_rfl) (by kernel_rfl) (fun _ _ _ h => h) (Or.inl ⟨by kernel_rfl, by (intro w; go_simp; try with_reducible rfl)⟩) ?_
          go_simp
          refine wpAny_ready (rs := [7]) (by kernel_rfl) (by simp) ?_
          refine AllReady.cons rfl (fun K hK => ?_) AllReady.nil
          go_simp
          (refine hK _ _ ?_; clear hK K)
          refine wpAny_ready (rs := [8]) (by kernel_rfl) (by simp) ?_
          refine AllReady.cons rfl (fun K hK => ?_) AllReady.nil
          have HI2 := own_below HI1.out hb1
          have bw1 := hbd.trans (hb1.mono hbd.size)
          have zz := hb1.size
          refine step_append_lies _ rfl _ _ 79 rfl w.heap.size 164 i0 (.agg #[.int .i64 0, .int .i64 0, .int .i64 0, .int .i64 0]) 4 32 Tryz.underlying79 hi hz0 hz1 hz2 rfl (by decide) _ _ _ rfl (HI2.alloc _) ⟨w1.heap.size, 0, none⟩ 1 1 [.int .i64 (L (k * 4)), .int .i64 (L (k * 4 + 1)), .int .i64 (L (k * 4 + 2)), .int .i64 (L (k * 4 + 3))] rfl rfl ?c1 ?c2 (by omega) ?c3 ?c4 ?c5 _ rfl ?_
          case c1 =>
            intro j u hj
            match j, hj with
            | 0, hj => simp at hj; subst hj; simp [Addr.add]
            | 1, hj => simp at hj; subst hj; simp [Addr.add]
            | 2, hj => simp at hj; subst hj; simp [Addr.add]
            | 3, hj => simp at hj; subst hj; simp [Addr.add]
          case c2 => intro u hu; simp at hu; rcases hu with rfl | rfl | rfl | rfl <;> rfl
          case c3 => unfold maxLen; omega
          case c4 => omega
          case c5 => have := bw1.size; simp; omega
          intro g cg w2 hown hgrow hat hlt
          refine hK _ _ ?_
          clear hK K
          rw [← flat4_step] at hown
          have hb2 : Below w.heap.size w w2 := (bw1.alloc bw1.size _).grown hgrow (Nat.le_trans bw1.size (by simp)) (fun q hq => (HI2.lt q hq).1)
          refine wpAny_take (i := 9) (v := ?_) rfl (by kernel_rfl) (by kernel_rfl) (by kernel_rfl) (fun _ _ _ h => h) (Or.inl ⟨by kernel_rfl, by (intro w; go_simp; try with_reducible rfl)⟩) ?_
          go_simp
          refine wpAny_done (by kernel_rfl) ?_ _
          go_wp2
          go_roundw
          case rel => exact ⟨k + 1, by omega, by go_num, Lib.hid hown, hb2⟩
          case measure => simp [intOf]; omega
    · obtain rfl : k = n := by omega
      obtain ⟨a', cap', rfl, hka, hkb⟩ := own_keys hn HI.out
      go_wp2
      go_ret
      exact ⟨⟨_, _, rfl, hka, hkb⟩, hbk⟩

theorem KeysAt.set {w : World} {a : Option Addr} {n : Nat} {L : Nat → Int} (h : KeysAt w a n L) {q : Nat} (hq : ∀ p, a = some p → q < p.block) (i : Nat) (v : Value) : KeysAt (w.setCell ⟨q, i, none⟩ v) a n L := by
  obtain ⟨h0, h | ⟨b, off, rfl, hlt, hc⟩⟩ := h
  · exact ⟨h0, .inl h⟩
  · have hne : q < b := hq _ rfl
    exact ⟨h0, .inr ⟨b, off, rfl, by simpa using hlt, fun j hj => by rw [World.cell?_setCell_other _ _ _ _ (by first | (simp; done) | (simp; omega))]; exact hc j hj⟩⟩

set_option maxHeartbeats 1000000 in
theorem tto_any (way : Int) (a : Option Addr) (n cap : Nat) (L : Nat → Int) (w : World) (hr : KeysAt w a n L) :
    Calls Tryz.prog 20 #[.agg #[.int .i64 way, .slice a n cap]] w fun e w' => (∃ a' cap', e = .returned (.agg #[.int .i64 way, .slice a' n cap']) ∧ KeysAt w' a' n L) ∧ Below w.heap.size w w' := by
  have hr2 := hr.on (below_n2 w (.cells #[.int .i64 way, .slice a n cap] 65) (.cells #[.int .i64 0, .slice none 0 0] 81))
  have hrd : KeysAt (((w.alloc (.cells #[.int .i64 way, .slice a n cap] 65)).alloc (.cells #[.int .i64 0, .slice none 0 0] 81)).drew) a n L := hr2
  go_enter Tryz.func20, Tryz.ntmps20
  go_wp2_with fail
  go_region_held3 (fun w' => w'.cell? ⟨w.heap.size, 0, none⟩ = some (.int .i64 way) ∧ w'.cell? ⟨w.heap.size, 1, none⟩ = some (.slice a n cap)) (first | (go_keep; done) | (go_split_ands; (try dsimp only); exact ⟨held_on hb1 (by assumption), held_on hb1 (by assumption)⟩) | (refine ⟨?_, ?_⟩ <;> (go_simp; done)) | (refine ⟨?_, ?_⟩ <;> (rw [World.cell?_setCell_other _ _ _ _ (by simp), World.cell?_setCell_other _ _ _ _ (by simp)]; go_split_ands; assumption))) (first | (go_at_call 57; refine (keys_any _ _ _ _ _ hrd).mono ?_; rintro e w1 ⟨⟨a', cap', rfl, hk1, hkb⟩, hb1⟩; obtain ⟨hc, hf⟩ := bcell hb1))
  have hz := hb1.size
  simp at hz
  go_wp2
  refine bodyPost_ret (v := .agg #[.int .i64 way, .slice a' n cap']) (by simp [results, Tryz.results20, go_sem, hc]) rfl ⟨⟨_, _, rfl, (hk1.set (q := w.heap.size + 1) (fun p hp => by have := hkb p hp; simp at this; omega) 0 _).set (q := w.heap.size + 1) (fun p hp => by have := hkb p hp; simp at this; omega) 1 _⟩, ?_⟩
  exact ((below_d2 hb1).setCell (by simp) _).setCell (by simp) _
end Go.Proofs.YtfbppiamlolfpaaGreat.Tk
