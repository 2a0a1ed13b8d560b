/- Jobs: a track, and tracks one behind the other, read off a reader, by the program. -/
import Derived.Test.YtplcbdmiccpnnaaGreatC27
namespace Go.Proofs.YtplcbdmiccpnnaaGreat.Jb
open Go.RowKit Go.Proofs.YtplcbdmiccpnnaaGreat Go.Proofs.YtplcbdmiccpnnaaGreat.Rp Go.Proofs.YtplcbdmiccpnnaaGreat.Re Go.Proofs.YtplcbdmiccpnnaaGreat.Au
set_option linter.unusedVariables false
set_option linter.unusedSimpArgs false

/-- what is read of a track, and the state behind it -/
def trackM (s : St) : Nat × St := manyS (numS s 1).2 16 23
def trackW (s : St) : Int := ((numS s 1).1 : Int)
def trackN (s : St) : Nat := (trackM s).1
def trackK (s : St) : Nat → Int := itV keyE keyV 4 (trackM s).2
def trackE (s : St) : St := itS keyE (trackM s).2 (trackM s).1

theorem many_le (s : St) (most : Nat) (e : Int) : (manyS s (most : Int) e).1 ≤ most := by
  unfold manyS; split <;> simp; omega

theorem trackN_le (s : St) : trackN s ≤ 16 := many_le _ 16 23

set_option maxHeartbeats 4000000 in
set_option maxRecDepth 100000 in
theorem jtrackR (g : Nat) {B : Nat} (s : St) (w : World) (hw : RP (.pointer (some ⟨g, 0, none⟩)) g B s w) (hg : g < w.heap.size) (hB : B ≤ w.heap.size) : Calls Tryz.prog 32 #[.agg #[.pointer (some ⟨g, 0, none⟩)]] w fun e' w' => (∃ ka kc, e' = .returned (.agg #[.int .i64 (trackW s), .slice ka (trackN s) kc]) ∧ LP 4 137 w.heap.size w' ka (trackN s) (trackK s)) ∧ RP (.pointer (some ⟨g, 0, none⟩)) g B (trackE s) w' ∧ Aft g w.heap.size w w' := by
  have HPw := Lib.hid hw
  clear hw
  have hn16 := trackN_le s
  go_enter Tryz.func32, Tryz.ntmps32
  go_upto_region 1 with fail
  have hR := Au.rows2 w (.cells #[.pointer (some ⟨g, 0, none⟩)] 59) (.cells #[.int .i64 0, .slice none 0 0] 94)
  have HUx := Ve.below_n2 w (.cells #[.pointer (some ⟨g, 0, none⟩)] 59) (.cells #[.int .i64 0, .slice none 0 0] 94)
  obtain ⟨y0, hy0⟩ : ∃ y0, (w.alloc (.cells #[.pointer (some ⟨g, 0, none⟩)] 59)).alloc (.cells #[.int .i64 0, .slice none 0 0] 94) = y0 := ⟨_, rfl⟩
  rw [hy0] at hR HUx ⊢
  clear hy0
  have HP0 := Lib.hid (HPw.out.new HUx)
  have hz0 := HUx.size
  have HU0 := Lib.hid (Aft.of (g := g) (base := w.heap.size) HUx)
  clear HUx
  obtain ⟨hr0_0, hr0_1⟩ := hR
  refine wp_region_held_drew (S := fun y => y.heap[w.heap.size]? = some (.cells #[.pointer (some ⟨g, 0, none⟩)] 59 (0, 0))) (by kernel_rfl) (hr0_0) (fun hS0 => ?_)
  obtain ⟨y1, hy1⟩ : ∃ y, y0.drew = y := ⟨_, rfl⟩
  have HU1 := Lib.hid (show Aft g w.heap.size w y1 by rw [← hy1]; exact HU0.out.drew)
  have HP1 := Lib.hid (show RP (.pointer (some ⟨g, 0, none⟩)) g B _ y1 by rw [← hy1]; exact rp_drew HP0.out)
  have hz1 := HU1.out.size
  have hr1_0 : y1.heap[w.heap.size]? = some (.cells #[.pointer (some ⟨g, 0, none⟩)] 59 (0, 0)) := by rw [← hy1]; exact hr0_0
  have hr1_1 : y1.heap[w.heap.size + 1]? = some (.cells #[.int .i64 0, .slice none 0 0] 94 (0, 0)) := by rw [← hy1]; exact hr0_1
  have hl1_0 := lt_heap hr1_0
  have hl1_1 := lt_heap hr1_1
  rw [hy1] at hS0 ⊢
  clear hy1
  refine wpAnyH_take (i := 0) (v := ?_) rfl (by kernel_rfl) (by kernel_rfl) (by kernel_rfl) (fun _ _ _ h => h) (Or.inl ⟨by kernel_rfl, by (intro wz hSz; go_simp; try with_reducible rfl)⟩) hS0 ?_
  go_simp
  refine wpAnyH_take (i := 1) (v := ?_) rfl (by kernel_rfl) (by kernel_rfl) (by kernel_rfl) (fun _ _ _ h => h) (Or.inl ⟨by kernel_rfl, by (intro wz hSz; have c0_0 := cell_of_row _ _ 0 _ _ _ hSz; simp at c0_0; go_simp; try with_reducible rfl)⟩) hS0 ?_
  go_simp
  refine wpAnyH_take (i := 3) (v := ?_) rfl (by kernel_rfl) (by kernel_rfl) (by kernel_rfl) (fun _ _ _ h => h) (Or.inl ⟨by kernel_rfl, by (intro wz hSz; have c0_0 := cell_of_row _ _ 0 _ _ _ hSz; simp at c0_0; go_simp; try with_reducible rfl)⟩) hS0 ?_
  go_simp
  refine wpAnyH_take (i := 5) (v := ?_) rfl (by kernel_rfl) (by kernel_rfl) (by kernel_rfl) (fun _ _ _ h => h) (Or.inl ⟨by kernel_rfl, by (intro wz hSz; have c0_0 := cell_of_row _ _ 0 _ _ _ hSz; simp at c0_0; go_simp; try with_reducible rfl)⟩) hS0 ?_
  go_simp
  refine wpAnyH_take (i := 6) (v := ?_) rfl (by kernel_rfl) (by kernel_rfl) (by kernel_rfl) (fun _ _ _ h => h) (Or.inl ⟨by kernel_rfl, by (intro wz hSz; go_simp; try with_reducible rfl)⟩) hS0 ?_
  go_simp
  refine wpAnyH_ready (rs := [2]) (by kernel_rfl) (by simp) ?_
  refine AllReadyH.cons rfl (fun K hK => ?_) AllReadyH.nil
  go_simp
  go_wp2_with (go_at_call 60; refine (rbyte_any _ g s _ HP1.out).mono ?_; rintro e y2 ⟨rfl, hp2, hb2⟩)
  have HP2 := Lib.hid hp2
  have hz2 := hb2.size
  have hr2_0 := (hb2.block _ (lt_heap hr1_0) (lt_heap hr1_0) (by omega)).trans hr1_0
  have hr2_1 := (hb2.block _ (lt_heap hr1_1) (lt_heap hr1_1) (by omega)).trans hr1_1
  have HU2 := Lib.hid (HU1.out.trans (hb2.mono HU1.out.size))
  refine hK.out _ _ ((hb2.block _ (lt_heap hS0) (lt_heap hS0) (by omega)).trans hS0) (fun hS2c => ?_)
  clear hK K
  refine wpAnyH_ready (rs := [4]) (by kernel_rfl) (by simp) ?_
  refine AllReadyH.cons rfl (fun K hK => ?_) AllReadyH.nil
  go_simp
  go_wp2_with (go_at_call 28; refine (jmany g (numS s 1).2 16 23 _ HP2.out (by omega) (by omega)).mono ?_; rintro e y3 ⟨rfl, hp3, hb3⟩)
  have HP3 := Lib.hid hp3
  have hz3 := hb3.size
  have hr3_0 := (hb3.block _ (lt_heap hr2_0) (lt_heap hr2_0) (by omega)).trans hr2_0
  have hr3_1 := (hb3.block _ (lt_heap hr2_1) (lt_heap hr2_1) (by omega)).trans hr2_1
  have HU3 := Lib.hid (HU2.out.trans (hb3.mono HU2.out.size))
  refine hK.out _ _ ((hb3.block _ (lt_heap hS2c) (lt_heap hS2c) (by omega)).trans hS2c) (fun hS3c => ?_)
  clear hK K
  refine wpAnyH_ready (rs := [7]) (by kernel_rfl) (by simp) ?_
  refine AllReadyH.cons rfl (fun K hK => ?_) AllReadyH.nil
  go_simp
  go_wp2_with (go_at_call 65; refine (jlist_key g (trackM s).2 (trackN s) (by omega) _ HP3.out (by omega) (by omega)).mono ?_; rintro e y4 ⟨⟨_, rfl, ka, kc, rfl, hla⟩, hp4, hb4⟩; have HLA := Lib.hid hla; clear hla)
  have HP4 := Lib.hid hp4
  have hz4 := hb4.size
  have hr4_0 := (hb4.block _ (lt_heap hr3_0) (lt_heap hr3_0) (by omega)).trans hr3_0
  have hr4_1 := (hb4.block _ (lt_heap hr3_1) (lt_heap hr3_1) (by omega)).trans hr3_1
  have HU4 := Lib.hid (HU3.out.trans (hb4.mono HU3.out.size))
  refine hK.out _ _ ((hb4.block _ (lt_heap hS3c) (lt_heap hS3c) (by omega)).trans hS3c) (fun hS4c => ?_)
  clear hK K
  refine wpAnyH_take (i := 8) (v := ?_) rfl (by kernel_rfl) (by kernel_rfl) (by kernel_rfl) (fun _ _ _ h => h) (Or.inl ⟨by kernel_rfl, by (intro wz hSz; go_simp; try with_reducible rfl)⟩) hS4c ?_
  go_simp
  refine wpAnyH_ready (rs := [9]) (by kernel_rfl) (by simp) ?_
  refine AllReadyH.cons rfl (fun K hK => ?_) AllReadyH.nil
  refine step_store_row rfl 94 (.tmp 2) (.tmp 11) rfl #[.int .i64 0, .slice none 0 0] #[.int .i64 (trackW s), .slice ka (trackN s) kc] _ 94 hr4_1 rfl (by first | rfl | (go_simp; done) | (go_simp; rfl)) (by kernel_rfl) rfl (by simp [Value.oneCell']) ?_
  have hN := setRow_heap _ (w.heap.size + 1) _ #[.int .i64 (trackW s), .slice ka (trackN s) kc] _ _ hr4_1
  have hsz := HU4.out.size
  have HUx := aft_setRow (k := w.heap.size + 1) HU4.out (by omega) (by omega) #[.int .i64 (trackW s), .slice ka (trackN s) kc]
  have hPx := rp_setRow (k := w.heap.size + 1) HP4.out (by omega) #[.int .i64 (trackW s), .slice ka (trackN s) kc]
  obtain ⟨y5, hy5⟩ : ∃ y, y4.setRow (w.heap.size + 1) #[.int .i64 (trackW s), .slice ka (trackN s) kc] = y := ⟨_, rfl⟩
  have hO : ∀ k, k ≠ w.heap.size + 1 → y5.heap[k]? = y4.heap[k]? := fun k hk => by rw [← hy5]; exact setRow_other _ _ _ _ hk
  rw [hy5] at hN HUx hPx ⊢
  clear hy5
  have HU5 := Lib.hid HUx
  clear HUx
  have HP5 := Lib.hid hPx
  have hz5 := HU5.out.size
  have hr5_0 := (hO _ (by omega)).trans hr4_0
  have hr5_1 := hN
  clear hN
  refine hK.out _ _ ((hO _ (by omega)).trans hS4c) (fun hS5s => ?_)
  clear hK K
  refine wpAnyH_done (by kernel_rfl) ?_ _
  have c1_0 := cell_of_row _ _ 0 _ _ _ hr5_1
  have c1_1 := cell_of_row _ _ 1 _ _ _ hr5_1
  simp at c1_0 c1_1
  go_wp2
  exact bodyPost_ret (v := .agg #[.int .i64 (trackW s), .slice ka (trackN s) kc]) (by simp [results, Tryz.results32, go_sem, c1_0, c1_1]) rfl ⟨⟨ka, kc, rfl, (HLA.out.heap (fun k cs fr h1 h2 => hO k (by omega))).low (by omega)⟩, HP5.out, HU5.out⟩

theorem info_track : (Tryz.prog.info? 94).map (fun i => (i.zero, i.size, i.bytes)) = some (some (.agg #[.int .i64 0, .slice none 0 0]), 2, 32) := by kernel_rfl

/-- a row's values, two a track, and where their keys lie -/
def TrK (base : Nat) (w : World) (s : St) (k : Nat) (xs : List Value) : Prop :=
  xs.length = k * 2 ∧ ∀ i, i < k → ∃ ka kc, xs[i * 2]? = some (.int .i64 (trackW (itS trackE s i))) ∧ xs[i * 2 + 1]? = some (.slice ka (trackN (itS trackE s i)) kc) ∧ LP 4 137 base w ka (trackN (itS trackE s i)) (trackK (itS trackE s i))

theorem TrK.heap {base : Nat} {w w' : World} {s : St} {k : Nat} {xs : List Value} (h : TrK base w s k xs) (hk : ∀ k cs fr, base ≤ k → w.heap[k]? = some (.cells cs 137 fr) → w'.heap[k]? = w.heap[k]?) : TrK base w' s k xs :=
  ⟨h.1, fun i hi => by
    obtain ⟨ka, kc, h1, h2, h3⟩ := h.2 i hi
    exact ⟨ka, kc, h1, h2, h3.heap hk⟩⟩

theorem TrK.snoc {base : Nat} {w : World} {s : St} {k : Nat} {xs : List Value} {ka : Option Addr} {kc : Nat} (h : TrK base w s k xs) (hl : LP 4 137 base w ka (trackN (itS trackE s k)) (trackK (itS trackE s k))) :
    TrK base w s (k + 1) (xs ++ [.int .i64 (trackW (itS trackE s k)), .slice ka (trackN (itS trackE s k)) kc]) := by
  refine ⟨by rw [List.length_append, h.1]; simp; omega, fun i hi => ?_⟩
  by_cases e : i = k
  · subst e
    refine ⟨ka, kc, ?_, ?_, hl⟩
    · rw [List.getElem?_append_right (by rw [h.1]; omega), h.1]; simp
    · rw [List.getElem?_append_right (by rw [h.1]; omega), h.1, show i * 2 + 1 - i * 2 = 1 by omega]; rfl
  · obtain ⟨ka', kc', h1, h2, h3⟩ := h.2 i (by omega)
    exact ⟨ka', kc', by rw [List.getElem?_append_left (by rw [h.1]; omega)]; exact h1, by rw [List.getElem?_append_left (by rw [h.1]; omega)]; exact h2, h3⟩

theorem own_type {base c : Nat} {e : TypeId} {w : World} {v : Value} {n : Nat} {xs : List Value} (h : w.ownsRow base e c v n xs) {q : Nat} (hq : v.ownBlock = some q) : ∃ cs fr, w.heap[q]? = some (.cells cs e fr) := by
  rcases h.2 with ⟨rfl, -⟩ | ⟨q', cap, cur, rfl, -, h2, -⟩
  · cases hq
  · cases hq; exact ⟨_, _, h2⟩

theorem keep_grown {base c : Nat} {e t : TypeId} {w w' : World} {v : Value} {n : Nat} {xs : List Value} (ho : w.ownsRow base e c v n xs) (hg : w.grownBy w' v.ownBlock) (hne : t ≠ e) (k : Nat) (cs : Array Value) (fr : Nat × Nat) (h : w.heap[k]? = some (.cells cs t fr)) : w'.heap[k]? = w.heap[k]? :=
  hg.block k (lt_of_heap h) fun e' => by
    obtain ⟨cs', fr', h'⟩ := own_type ho e'.symm
    rw [h'] at h
    injection h with h
    injection h with h1 h2 h3
    exact hne h2.symm

/-- tracks that were read: none, or they begin a block that is new -/
def TL (base : Nat) (w : World) (v : Value) (n : Nat) (s : St) : Prop :=
  ∃ a cap, v = .slice a n cap ∧ (n = 0 ∨ ∃ b, a = some ⟨b, 0, none⟩ ∧ base ≤ b ∧ (∃ cs fr, w.heap[b]? = some (.cells cs 94 fr)) ∧ ∀ i, i < n → ∃ ka kc, w.cell? ⟨b, i * 2, none⟩ = some (.int .i64 (trackW (itS trackE s i))) ∧ w.cell? ⟨b, i * 2 + 1, none⟩ = some (.slice ka (trackN (itS trackE s i)) kc) ∧ LP 4 137 base w ka (trackN (itS trackE s i)) (trackK (itS trackE s i)))

theorem tl_own {base : Nat} {w : World} {v : Value} {n : Nat} {s : St} {xs : List Value} (h : w.ownsRow base 94 2 v n xs) (ht : TrK base w s n xs) : TL base w v n s := by
  have h' := h
  rcases h.2 with ⟨hv, hn⟩ | ⟨g, cap, cur, hv, hb, h2, hle, -, -, -⟩
  · subst hn; exact ⟨none, 0, hv, .inl rfl⟩
  · refine ⟨some ⟨g, 0, none⟩, cap, hv, .inr ⟨g, rfl, (h.lt g (by rw [hv]; rfl)).1, ⟨_, _, h2⟩, fun i hi => ?_⟩⟩
    rw [hv] at h'
    obtain ⟨ka, kc, h1, h2, h3⟩ := ht.2 i hi
    exact ⟨ka, kc, (h'.cellAt _ (by omega)).trans h1, (h'.cellAt _ (by omega)).trans h2, h3⟩

set_option maxHeartbeats 4000000 in
set_option maxRecDepth 100000 in
theorem jlist_track (g : Nat) {B : Nat} (s : St) (n : Nat) (hn : n ≤ 100000) (w : World) (hw : RP (.pointer (some ⟨g, 0, none⟩)) g B s w) (hg : g < w.heap.size) (hB : B ≤ w.heap.size) :
    Calls Tryz.prog 31 #[.int .i64 (n : Int), .func (.func 32) #[.agg #[.pointer (some ⟨g, 0, none⟩)]] #[]] w fun e' w' => (∃ v, e' = .returned v ∧ TL w.heap.size w' v n s) ∧ RP (.pointer (some ⟨g, 0, none⟩)) g B (itS trackE s n) w' ∧ Aft g w.heap.size w w' := by
  obtain ⟨i0, hi, hz0, hz1, hz2⟩ := info_parts info_track
  have HPw := Lib.hid hw
  clear hw
  go_enter Tryz.func31, Tryz.ntmps31
  go_wp2_with fail
  go_loopw [5, 7] (fun s5 s7 wr => ∃ k : Nat, k ≤ n ∧ s7 = .int .i64 k ∧ Hid (∃ xs, wr.ownsRow w.heap.size 94 2 s5 k xs ∧ TrK w.heap.size wr s k xs) ∧ Hid (RP (.pointer (some ⟨g, 0, none⟩)) g B (itS trackE s k) wr) ∧ Hid (Aft g w.heap.size w wr)) (fun _ s7 _ => n - (intOf s7).toNat)
  case atStart => exact ⟨0, by omega, rfl, Lib.hid ⟨[], World.ownsRow_nil _ _ _ _, rfl, fun i hi => absurd hi (by omega)⟩, HPw, Lib.hid (Aft.refl _ _ _)⟩
  case round =>
    obtain ⟨k, hk, rfl, HX, HP, HU⟩ := hrel
    obtain ⟨y0, rfl⟩ : ∃ y : World, y = wr := ⟨_, rfl⟩
    have hz := HU.out.size
    by_cases hlt : k < n
    · have hlt' : (k : Int) < n := by omega
      obtain ⟨xs, hin, htk⟩ := HX.out
      have HI := Lib.hid hin
      have HT := Lib.hid htk
      have hxl := htk.1
      clear hin htk HX
      go_wp2_with fail
      refine (jtrackR g (itS trackE s k) _ HP.out (by omega) (by omega)).mono ?_
      rintro e y1 ⟨⟨ka, kc, rfl, hlp⟩, hp1, hb1⟩
      have HI1 := Lib.hid (own_aft HI.out hb1 hg)
      have HT1 := Lib.hid (HT.out.heap fun k cs fr h1 h2 => hb1.block k (lt_of_heap h2) (lt_of_heap h2) (by omega))
      have HL1 := Lib.hid (hlp.low hz)
      have HU1 := Lib.hid (HU.out.trans (hb1.mono HU.out.size))
      have HP1 := Lib.hid hp1
      have hsz := HU1.out.size
      clear HI HU HP HT hb1 hp1 hlp
      go_wp2_with (first | (at_builtin; refine wpList_append_own _ rfl _ _ 32 rfl w.heap.size 94 i0 (.agg #[.int .i64 0, .slice none 0 0]) 2 32 Tryz.underlying32 hi hz0 hz1 hz2 rfl (by decide) _ _ _ rfl (HI1.out.alloc _) ⟨y1.heap.size, 0, none⟩ 1 1 [.int .i64 (trackW (itS trackE s k)), .slice ka (trackN (itS trackE s k)) kc] rfl rfl ?c1 ?c2 ?c3 ?c4 ?c5 ?_))
      case c1 =>
        intro j u hj
        match j, hj with
        | 0, hj => simp at hj; subst hj; simp [Addr.add]
        | 1, hj => simp at hj; subst hj; simp [Addr.add]
      case c2 => intro u hu; simp at hu; rcases hu with rfl | rfl <;> rfl
      case c3 => unfold maxLen; omega
      case c4 => omega
      case c5 => simp; omega
      intro v5 y2 hin2 hgrow _
      have HU2 := Lib.hid (aft_grown (HU1.out.alloc _) (HI1.out.alloc _) hgrow (by omega))
      have HP2 := Lib.hid (rp_grown (HP1.out.new (Ve.below_n1 _ _)) (HI1.out.alloc _) hgrow (by constructor <;> first | omega | (simp; omega)))
      have hkeep : ∀ k cs fr, w.heap.size ≤ k → y1.heap[k]? = some (.cells cs 137 fr) → y2.heap[k]? = y1.heap[k]? := fun q cs fr _ h => by
        have h1 := (Ve.below_n1 y1 (.cells #[.int .i64 (trackW (itS trackE s k)), .slice ka (trackN (itS trackE s k)) kc] 94)).block q (lt_of_heap h)
        exact (keep_grown (HI1.out.alloc _) hgrow (by decide) q cs fr (h1.trans h)).trans h1
      have HX2 := Lib.hid (show ∃ xs, y2.ownsRow w.heap.size 94 2 v5 (k + 1) xs ∧ TrK w.heap.size y2 s (k + 1) xs from ⟨_, hin2, (HT1.out.heap hkeep).snoc (HL1.out.heap hkeep)⟩)
      clear hkeep hin2
      go_wp2_with fail
      go_roundw
      case rel => exact ⟨k + 1, by omega, by go_num, HX2, HP2, HU2⟩
      case measure => simp [intOf]; omega
    · obtain rfl : k = n := by omega
      obtain ⟨xs, hin, htk⟩ := HX.out
      have HR := Lib.hid (tl_own hin htk)
      clear hin htk HX
      go_wp2
      go_ret
      exact ⟨⟨_, rfl, HR.out⟩, HP.out, HU.out⟩

end Go.Proofs.YtplcbdmiccpnnaaGreat.Jb
