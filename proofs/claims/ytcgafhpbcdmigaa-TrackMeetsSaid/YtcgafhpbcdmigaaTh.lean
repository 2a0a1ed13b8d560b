/- The library's sort of two keys, the second one's time ahead of the first one's. -/
import Derived.Test.YtcgafhpbcdmigaaTo
namespace Go.Proofs.Ytcgafhpbcdmigaa.Tn
open Go.RowKit Go.Proofs.Ytcgafhpbcdmigaa Go.Proofs.Ytcgafhpbcdmigaa.Wa Go.Proofs.Ytcgafhpbcdmigaa.Ve Go.Proofs.Ytcgafhpbcdmigaa.Tk Go.Proofs.Ytcgafhpbcdmigaa.Ls

set_option maxHeartbeats 2000000 in
set_option maxRecDepth 100000 in
theorem insert_any (g cap B : Nat) (f : Nat → Int) (w : World) (hr : Row2 g f w) (hB : B ≤ g) (hlt : f 4 < f 0) :
    Calls Try.prog 89 #[.slice (some ⟨g, 0, none⟩) 2 cap, .int .i64 0, .int .i64 2, .func (.func 75) #[] #[]] w fun e w' => (∃ v, e = .returned v) ∧ Row2 g (swap f) w' ∧ Below B w w' := by
  have HR := Lib.hid hr
  obtain ⟨hg, hc, hf⟩ := hr
  have c0 := hc 0 (by omega)
  have c1 := hc 1 (by omega)
  have c2 := hc 2 (by omega)
  have c3 := hc 3 (by omega)
  have c4 := hc 4 (by omega)
  have c5 := hc 5 (by omega)
  have c6 := hc 6 (by omega)
  have c7 := hc 7 (by omega)
  clear hc
  have w0 : IntKind.i64.wrap 0 = 0 := by decide
  have w1 : IntKind.i64.wrap (1 - 1) = 0 := by decide
  go_enter Try.func89, Try.ntmps89
  go_wp2
  refine wp_loop_rounds 2 ?_
  rw [rounds_succ]
  go_wp2
  refine wp_loop_rounds 2 ?_
  rw [rounds_succ]
  go_wp2_with fail
  go_region_held3 (fun w' => w'.cell? ⟨g, 0, none⟩ = some (.int .i64 (f 0)) ∧ w'.cell? ⟨g, 1, none⟩ = some (.int .i64 (f 1)) ∧ w'.cell? ⟨g, 2, none⟩ = some (.int .i64 (f 2)) ∧ w'.cell? ⟨g, 3, none⟩ = some (.int .i64 (f 3)) ∧ w'.cell? ⟨g, 4, none⟩ = some (.int .i64 (f 4)) ∧ w'.cell? ⟨g, 5, none⟩ = some (.int .i64 (f 5)) ∧ w'.cell? ⟨g, 6, none⟩ = some (.int .i64 (f 6)) ∧ w'.cell? ⟨g, 7, none⟩ = some (.int .i64 (f 7))) (first | (go_keep; done) | (go_split_ands; (try dsimp only); exact ⟨held_on hbn (by assumption), held_on hbn (by assumption), held_on hbn (by assumption), held_on hbn (by assumption), held_on hbn (by assumption), held_on hbn (by assumption), held_on hbn (by assumption), held_on hbn (by assumption)⟩)) (first | (go_at_call 75; refine (less_any _ _ _ _ _ _ _ _ hlt _).mono ?_; rintro e w9 ⟨rfl, hbn⟩; have hb9 := (Below.refl w.heap.size w).drew.trans hbn; have HR9 := HR.out.on hb9; obtain ⟨hg9, hc9, hf9⟩ := id HR9))
  clear hf HR c0 c1 c2 c3 c4 c5 c6 c7
  have hBw : B ≤ w.heap.size := by omega
  have c0 : w9.cell? ⟨g, 0, none⟩ = some (.int .i64 (f 0)) := hc9 0 (by omega)
  have c1 : w9.cell? ⟨g, 1, none⟩ = some (.int .i64 (f 1)) := hc9 1 (by omega)
  have c2 : w9.cell? ⟨g, 2, none⟩ = some (.int .i64 (f 2)) := hc9 2 (by omega)
  have c3 : w9.cell? ⟨g, 3, none⟩ = some (.int .i64 (f 3)) := hc9 3 (by omega)
  have c4 : w9.cell? ⟨g, 4, none⟩ = some (.int .i64 (f 4)) := hc9 4 (by omega)
  have c5 : w9.cell? ⟨g, 5, none⟩ = some (.int .i64 (f 5)) := hc9 5 (by omega)
  have c6 : w9.cell? ⟨g, 6, none⟩ = some (.int .i64 (f 6)) := hc9 6 (by omega)
  have c7 : w9.cell? ⟨g, 7, none⟩ = some (.int .i64 (f 7)) := hc9 7 (by omega)
  have hf := hf9
  clear hf9 hc9
  clear hg
  have hg := hg9
  go_wp2_with fail
  refine wp_region_any (by kernel_rfl) ?_
  (try (change wpAny _ _ _ _ _ _ _ (World.drew _)))
  refine wpAny_take (i := 0) (v := ?_) rfl (by kernel_rfl) (by kernel_rfl) (by kernel_rfl) (fun _ _ _ h => h) (Or.inl ⟨by kernel_rfl, by (intro w; go_simp; try with_reducible rfl)⟩) ?_
  go_simp
  refine wpAny_take (i := 1) (v := ?_) rfl (by kernel_rfl) (by kernel_rfl) (by kernel_rfl) (fun _ _ _ h => h) (Or.inl ⟨by kernel_rfl, by (intro w; go_simp; try with_reducible rfl)⟩) ?_
  go_simp
  refine wpAny_take (i := 2) (v := ?_) rfl (by kernel_rfl) (by kernel_rfl) (by kernel_rfl) (fun _ _ _ h => h) (Or.inl ⟨by kernel_rfl, by (intro w; go_simp; try with_reducible rfl)⟩) ?_
  go_simp
  refine wpAny_take (i := 3) (v := ?_) rfl (by kernel_rfl) (by kernel_rfl) (by kernel_rfl) (fun _ _ _ h => h) (Or.inl ⟨by kernel_rfl, by (intro w; go_simp; try with_reducible rfl)⟩) ?_
  go_simp
  refine wpAny_take (i := 4) (v := ?_) rfl (by kernel_rfl) (by kernel_rfl) (by kernel_rfl) (fun _ _ _ h => h) (Or.inl ⟨by kernel_rfl, by (intro w; go_simp; try with_reducible rfl)⟩) ?_
  go_simp
  refine wpAny_take (i := 5) (v := ?_) rfl (by kernel_rfl) (by kernel_rfl) (by kernel_rfl) (fun _ _ _ h => h) (Or.inl ⟨by kernel_rfl, by (intro w; go_simp; try with_reducible rfl)⟩) ?_
  go_simp
  refine wpAny_take (i := 6) (v := ?_) rfl (by kernel_rfl) (by kernel_rfl) (by kernel_rfl) (fun _ _ _ h => h) (Or.inl ⟨by kernel_rfl, by (intro w; go_simp; try with_reducible rfl)⟩) ?_
  go_simp
  refine wpAny_take (i := 7) (v := ?_) rfl (by kernel_rfl) (by kernel_rfl) (by kernel_rfl) (fun _ _ _ h => h) (Or.inl ⟨by kernel_rfl, by (intro w; go_simp; try with_reducible rfl)⟩) ?_
  go_simp
  refine wpAny_take (i := 8) (v := ?_) rfl (by kernel_rfl) (by kernel_rfl) (by kernel_rfl) (fun _ _ _ h => h) (Or.inl ⟨by kernel_rfl, by (intro w; go_simp; try with_reducible rfl)⟩) ?_
  go_simp
  refine wpAny_take (i := 10) (v := ?_) rfl (by kernel_rfl) (by kernel_rfl) (by kernel_rfl) (fun _ _ _ h => h) (Or.inl ⟨by kernel_rfl, by (intro w; go_simp; try with_reducible rfl)⟩) ?_
  go_simp
  refine wpAny_take (i := 11) (v := ?_) rfl (by kernel_rfl) (by kernel_rfl) (by kernel_rfl) (fun _ _ _ h => h) (Or.inl ⟨by kernel_rfl, by (intro w; go_simp; try with_reducible rfl)⟩) ?_
  go_simp
  refine wpAny_take (i := 12) (v := ?_) rfl (by kernel_rfl) (by kernel_rfl) (by kernel_rfl) (fun _ _ _ h => h) (Or.inl ⟨by kernel_rfl, by (intro w; go_simp; try with_reducible rfl)⟩) ?_
  go_simp
  refine wpAny_ready (rs := [9, 13]) (by kernel_rfl) (by simp) ?_
  refine AllReady.cons rfl (fun K hK => ?_) (AllReady.cons rfl (fun K hK => ?_) AllReady.nil)
  · skip
    go_simp
    (refine hK _ _ ?_; clear hK K)
    refine wpAny_ready (rs := [13]) (by kernel_rfl) (by simp) ?_
    refine AllReady.cons rfl (fun K hK => ?_) AllReady.nil
    go_simp
    (refine hK _ _ ?_; clear hK K)
    refine wpAny_take (i := 14) (v := ?_) rfl (by kernel_rfl) (by kernel_rfl) (by kernel_rfl) (fun _ _ _ h => h) (Or.inl ⟨by kernel_rfl, by (intro w; go_simp; try with_reducible rfl)⟩) ?_
    go_simp
    refine wpAny_ready (rs := [15]) (by kernel_rfl) (by simp) ?_
    refine AllReady.cons rfl (fun K hK => ?_) AllReady.nil
    go_simp
    (refine hK _ _ ?_; clear hK K)
    obtain ⟨wx, hwx⟩ : ∃ wx, wx = World.drew ((((w9.setCell ⟨g, 4, none⟩ (.int .i64 (f 0))).setCell ⟨g, 5, none⟩ (.int .i64 (f 1))).setCell ⟨g, 6, none⟩ (.int .i64 (f 2))).setCell ⟨g, 7, none⟩ (.int .i64 (f 3))) := ⟨_, rfl⟩
    have hRx := Row2.congr (f' := fun j => if 4 ≤ j ∧ j < 8 then f (if j < 4 then j + 4 else j - 4) else f j) (w := wx) (by rw [hwx]; exact Row2.draw (Row2.put (Row2.put (Row2.put (Row2.put HR9 (by decide)) (by decide)) (by decide)) (by decide))) (fun j hj => by match j, hj with | 0, _ => rfl | 1, _ => rfl | 2, _ => rfl | 3, _ => rfl | 4, _ => rfl | 5, _ => rfl | 6, _ => rfl | 7, _ => rfl)
    have hBx : Below B w wx := by rw [hwx]; exact (((((hb9.mono hBw).setCell hB _).setCell hB _).setCell hB _).setCell hB _).drew
    rw [← hwx]
    clear hwx c0 c1 c2 c3 c4 c5 c6 c7 hf hg
    obtain ⟨hg, hc, hf⟩ := id hRx
    have c0 : wx.cell? ⟨g, 0, none⟩ = some (.int .i64 (f 0)) := hc 0 (by omega)
    have c1 : wx.cell? ⟨g, 1, none⟩ = some (.int .i64 (f 1)) := hc 1 (by omega)
    have c2 : wx.cell? ⟨g, 2, none⟩ = some (.int .i64 (f 2)) := hc 2 (by omega)
    have c3 : wx.cell? ⟨g, 3, none⟩ = some (.int .i64 (f 3)) := hc 3 (by omega)
    have c4 : wx.cell? ⟨g, 4, none⟩ = some (.int .i64 (f 0)) := hc 4 (by omega)
    have c5 : wx.cell? ⟨g, 5, none⟩ = some (.int .i64 (f 1)) := hc 5 (by omega)
    have c6 : wx.cell? ⟨g, 6, none⟩ = some (.int .i64 (f 2)) := hc 6 (by omega)
    have c7 : wx.cell? ⟨g, 7, none⟩ = some (.int .i64 (f 3)) := hc 7 (by omega)
    clear hc
    refine wpAny_take (i := 16) (v := ?_) rfl (by kernel_rfl) (by kernel_rfl) (by kernel_rfl) (fun _ _ _ h => h) (Or.inl ⟨by kernel_rfl, by (intro w; go_simp; try with_reducible rfl)⟩) ?_
    go_simp
    refine wpAny_ready (rs := [17]) (by kernel_rfl) (by simp) ?_
    refine AllReady.cons rfl (fun K hK => ?_) AllReady.nil
    go_simp
    (refine hK _ _ ?_; clear hK K)
    refine wpAny_done (by kernel_rfl) ?_ _
    go_wp2
    rw [rounds_succ]
    go_wp2_with fail
    refine wp_region_any (by kernel_rfl) ?_
    (try (change wpAny _ _ _ _ _ _ _ (World.drew _)))
    refine wpAny_take (i := 0) (v := ?_) rfl (by kernel_rfl) (by kernel_rfl) (by kernel_rfl) (fun _ _ _ h => h) (Or.inl ⟨by kernel_rfl, by (intro w; go_simp; try with_reducible rfl)⟩) ?_
    go_simp
    refine wpAny_take (i := 1) (v := ?_) rfl (by kernel_rfl) (by kernel_rfl) (by kernel_rfl) (fun _ _ _ h => h) (Or.inl ⟨by kernel_rfl, by (intro w; go_simp; try with_reducible rfl)⟩) ?_
    go_simp
    refine wpAny_take (i := 2) (v := ?_) rfl (by kernel_rfl) (by kernel_rfl) (by kernel_rfl) (fun _ _ _ h => h) (Or.inl ⟨by kernel_rfl, by (intro w; go_simp; try with_reducible rfl)⟩) ?_
    go_simp
    refine wpAny_take (i := 3) (v := ?_) rfl (by kernel_rfl) (by kernel_rfl) (by kernel_rfl) (fun _ _ _ h => h) (Or.inl ⟨by kernel_rfl, by (intro w; go_simp; try with_reducible rfl)⟩) ?_
    go_simp
    refine wpAny_take (i := 4) (v := undef) rfl (by kernel_rfl) (by kernel_rfl) (by kernel_rfl) (fun _ _ _ h => h) (Or.inr ⟨by kernel_rfl, rfl⟩) ?_
    go_simp
    refine wpAny_take (i := 5) (v := undef) rfl (by kernel_rfl) (by kernel_rfl) (by kernel_rfl) (fun _ _ _ h => h) (Or.inr ⟨by kernel_rfl, rfl⟩) ?_
    go_simp
    refine wpAny_take (i := 6) (v := undef) rfl (by kernel_rfl) (by kernel_rfl) (by kernel_rfl) (fun _ _ _ h => h) (Or.inr ⟨by kernel_rfl, rfl⟩) ?_
    go_simp
    refine wpAny_take (i := 7) (v := undef) rfl (by kernel_rfl) (by kernel_rfl) (by kernel_rfl) (fun _ _ _ h => h) (Or.inr ⟨by kernel_rfl, rfl⟩) ?_
    go_simp
    refine wpAny_take (i := 8) (v := undef) rfl (by kernel_rfl) (by kernel_rfl) (by kernel_rfl) (fun _ _ _ h => h) (Or.inr ⟨by kernel_rfl, rfl⟩) ?_
    go_simp
    refine wpAny_take (i := 9) (v := undef) rfl (by kernel_rfl) (by kernel_rfl) (by kernel_rfl) (fun _ _ _ h => h) (Or.inr ⟨by kernel_rfl, rfl⟩) ?_
    go_simp
    refine wpAny_take (i := 10) (v := undef) rfl (by kernel_rfl) (by kernel_rfl) (by kernel_rfl) (fun _ _ _ h => h) (Or.inr ⟨by kernel_rfl, rfl⟩) ?_
    go_simp
    refine wpAny_take (i := 11) (v := undef) rfl (by kernel_rfl) (by kernel_rfl) (by kernel_rfl) (fun _ _ _ h => h) (Or.inr ⟨by kernel_rfl, rfl⟩) ?_
    go_simp
    refine wpAny_take (i := 12) (v := undef) rfl (by kernel_rfl) (by kernel_rfl) (by kernel_rfl) (fun _ _ _ h => h) (Or.inr ⟨by kernel_rfl, rfl⟩) ?_
    go_simp
    refine wpAny_take (i := 13) (v := undef) rfl (by kernel_rfl) (by kernel_rfl) (by kernel_rfl) (fun _ _ _ h => h) (Or.inr ⟨by kernel_rfl, rfl⟩) ?_
    go_simp
    refine wpAny_take (i := 14) (v := undef) rfl (by kernel_rfl) (by kernel_rfl) (by kernel_rfl) (fun _ _ _ h => h) (Or.inr ⟨by kernel_rfl, rfl⟩) ?_
    go_simp
    refine wpAny_take (i := 15) (v := undef) rfl (by kernel_rfl) (by kernel_rfl) (by kernel_rfl) (fun _ _ _ h => h) (Or.inr ⟨by kernel_rfl, rfl⟩) ?_
    go_simp
    refine wpAny_take (i := 16) (v := ?_) rfl (by kernel_rfl) (by kernel_rfl) (by kernel_rfl) (fun _ _ _ h => h) (Or.inl ⟨by kernel_rfl, by (intro w; go_simp; try with_reducible rfl)⟩) ?_
    go_simp
    refine wpAny_done (by kernel_rfl) ?_ _
    go_wp2
    rw [rounds_succ]
    go_wp2
    go_end0
    exact ⟨⟨_, rfl⟩, Row2.congr (Row2.draw (Row2.put (Row2.put (Row2.put (Row2.put hRx (by decide)) (by decide)) (by decide)) (by decide))) (fun j hj => by match j, hj with | 0, _ => rfl | 1, _ => rfl | 2, _ => rfl | 3, _ => rfl | 4, _ => rfl | 5, _ => rfl | 6, _ => rfl | 7, _ => rfl), by repeat (first | exact (((hBx.setCell hB _).setCell hB _).setCell hB _).setCell hB _ | apply Below.drew)⟩
  · skip
    go_simp
    (refine hK _ _ ?_; clear hK K)
    refine wpAny_ready (rs := [9]) (by kernel_rfl) (by simp) ?_
    refine AllReady.cons rfl (fun K hK => ?_) AllReady.nil
    go_simp
    (refine hK _ _ ?_; clear hK K)
    refine wpAny_take (i := 14) (v := ?_) rfl (by kernel_rfl) (by kernel_rfl) (by kernel_rfl) (fun _ _ _ h => h) (Or.inl ⟨by kernel_rfl, by (intro w; go_simp; try with_reducible rfl)⟩) ?_
    go_simp
    refine wpAny_ready (rs := [15]) (by kernel_rfl) (by simp) ?_
    refine AllReady.cons rfl (fun K hK => ?_) AllReady.nil
    go_simp
    (refine hK _ _ ?_; clear hK K)
    obtain ⟨wx, hwx⟩ : ∃ wx, wx = World.drew ((((w9.setCell ⟨g, 4, none⟩ (.int .i64 (f 0))).setCell ⟨g, 5, none⟩ (.int .i64 (f 1))).setCell ⟨g, 6, none⟩ (.int .i64 (f 2))).setCell ⟨g, 7, none⟩ (.int .i64 (f 3))) := ⟨_, rfl⟩
    have hRx := Row2.congr (f' := fun j => if 4 ≤ j ∧ j < 8 then f (if j < 4 then j + 4 else j - 4) else f j) (w := wx) (by rw [hwx]; exact Row2.draw (Row2.put (Row2.put (Row2.put (Row2.put HR9 (by decide)) (by decide)) (by decide)) (by decide))) (fun j hj => by match j, hj with | 0, _ => rfl | 1, _ => rfl | 2, _ => rfl | 3, _ => rfl | 4, _ => rfl | 5, _ => rfl | 6, _ => rfl | 7, _ => rfl)
    have hBx : Below B w wx := by rw [hwx]; exact (((((hb9.mono hBw).setCell hB _).setCell hB _).setCell hB _).setCell hB _).drew
    rw [← hwx]
    clear hwx c0 c1 c2 c3 c4 c5 c6 c7 hf hg
    obtain ⟨hg, hc, hf⟩ := id hRx
    have c0 : wx.cell? ⟨g, 0, none⟩ = some (.int .i64 (f 0)) := hc 0 (by omega)
    have c1 : wx.cell? ⟨g, 1, none⟩ = some (.int .i64 (f 1)) := hc 1 (by omega)
    have c2 : wx.cell? ⟨g, 2, none⟩ = some (.int .i64 (f 2)) := hc 2 (by omega)
    have c3 : wx.cell? ⟨g, 3, none⟩ = some (.int .i64 (f 3)) := hc 3 (by omega)
    have c4 : wx.cell? ⟨g, 4, none⟩ = some (.int .i64 (f 0)) := hc 4 (by omega)
    have c5 : wx.cell? ⟨g, 5, none⟩ = some (.int .i64 (f 1)) := hc 5 (by omega)
    have c6 : wx.cell? ⟨g, 6, none⟩ = some (.int .i64 (f 2)) := hc 6 (by omega)
    have c7 : wx.cell? ⟨g, 7, none⟩ = some (.int .i64 (f 3)) := hc 7 (by omega)
    clear hc
    refine wpAny_take (i := 16) (v := ?_) rfl (by kernel_rfl) (by kernel_rfl) (by kernel_rfl) (fun _ _ _ h => h) (Or.inl ⟨by kernel_rfl, by (intro w; go_simp; try with_reducible rfl)⟩) ?_
    go_simp
    refine wpAny_ready (rs := [17]) (by kernel_rfl) (by simp) ?_
    refine AllReady.cons rfl (fun K hK => ?_) AllReady.nil
    go_simp
    (refine hK _ _ ?_; clear hK K)
    refine wpAny_done (by kernel_rfl) ?_ _
    go_wp2
    rw [rounds_succ]
    go_wp2_with fail
    refine wp_region_any (by kernel_rfl) ?_
    (try (change wpAny _ _ _ _ _ _ _ (World.drew _)))
    refine wpAny_take (i := 0) (v := ?_) rfl (by kernel_rfl) (by kernel_rfl) (by kernel_rfl) (fun _ _ _ h => h) (Or.inl ⟨by kernel_rfl, by (intro w; go_simp; try with_reducible rfl)⟩) ?_
    go_simp
    refine wpAny_take (i := 1) (v := ?_) rfl (by kernel_rfl) (by kernel_rfl) (by kernel_rfl) (fun _ _ _ h => h) (Or.inl ⟨by kernel_rfl, by (intro w; go_simp; try with_reducible rfl)⟩) ?_
    go_simp
    refine wpAny_take (i := 2) (v := ?_) rfl (by kernel_rfl) (by kernel_rfl) (by kernel_rfl) (fun _ _ _ h => h) (Or.inl ⟨by kernel_rfl, by (intro w; go_simp; try with_reducible rfl)⟩) ?_
    go_simp
    refine wpAny_take (i := 3) (v := ?_) rfl (by kernel_rfl) (by kernel_rfl) (by kernel_rfl) (fun _ _ _ h => h) (Or.inl ⟨by kernel_rfl, by (intro w; go_simp; try with_reducible rfl)⟩) ?_
    go_simp
    refine wpAny_take (i := 4) (v := undef) rfl (by kernel_rfl) (by kernel_rfl) (by kernel_rfl) (fun _ _ _ h => h) (Or.inr ⟨by kernel_rfl, rfl⟩) ?_
    go_simp
    refine wpAny_take (i := 5) (v := undef) rfl (by kernel_rfl) (by kernel_rfl) (by kernel_rfl) (fun _ _ _ h => h) (Or.inr ⟨by kernel_rfl, rfl⟩) ?_
    go_simp
    refine wpAny_take (i := 6) (v := undef) rfl (by kernel_rfl) (by kernel_rfl) (by kernel_rfl) (fun _ _ _ h => h) (Or.inr ⟨by kernel_rfl, rfl⟩) ?_
    go_simp
    refine wpAny_take (i := 7) (v := undef) rfl (by kernel_rfl) (by kernel_rfl) (by kernel_rfl) (fun _ _ _ h => h) (Or.inr ⟨by kernel_rfl, rfl⟩) ?_
    go_simp
    refine wpAny_take (i := 8) (v := undef) rfl (by kernel_rfl) (by kernel_rfl) (by kernel_rfl) (fun _ _ _ h => h) (Or.inr ⟨by kernel_rfl, rfl⟩) ?_
    go_simp
    refine wpAny_take (i := 9) (v := undef) rfl (by kernel_rfl) (by kernel_rfl) (by kernel_rfl) (fun _ _ _ h => h) (Or.inr ⟨by kernel_rfl, rfl⟩) ?_
    go_simp
    refine wpAny_take (i := 10) (v := undef) rfl (by kernel_rfl) (by kernel_rfl) (by kernel_rfl) (fun _ _ _ h => h) (Or.inr ⟨by kernel_rfl, rfl⟩) ?_
    go_simp
    refine wpAny_take (i := 11) (v := undef) rfl (by kernel_rfl) (by kernel_rfl) (by kernel_rfl) (fun _ _ _ h => h) (Or.inr ⟨by kernel_rfl, rfl⟩) ?_
    go_simp
    refine wpAny_take (i := 12) (v := undef) rfl (by kernel_rfl) (by kernel_rfl) (by kernel_rfl) (fun _ _ _ h => h) (Or.inr ⟨by kernel_rfl, rfl⟩) ?_
    go_simp
    refine wpAny_take (i := 13) (v := undef) rfl (by kernel_rfl) (by kernel_rfl) (by kernel_rfl) (fun _ _ _ h => h) (Or.inr ⟨by kernel_rfl, rfl⟩) ?_
    go_simp
    refine wpAny_take (i := 14) (v := undef) rfl (by kernel_rfl) (by kernel_rfl) (by kernel_rfl) (fun _ _ _ h => h) (Or.inr ⟨by kernel_rfl, rfl⟩) ?_
    go_simp
    refine wpAny_take (i := 15) (v := undef) rfl (by kernel_rfl) (by kernel_rfl) (by kernel_rfl) (fun _ _ _ h => h) (Or.inr ⟨by kernel_rfl, rfl⟩) ?_
    go_simp
    refine wpAny_take (i := 16) (v := ?_) rfl (by kernel_rfl) (by kernel_rfl) (by kernel_rfl) (fun _ _ _ h => h) (Or.inl ⟨by kernel_rfl, by (intro w; go_simp; try with_reducible rfl)⟩) ?_
    go_simp
    refine wpAny_done (by kernel_rfl) ?_ _
    go_wp2
    rw [rounds_succ]
    go_wp2
    go_end0
    exact ⟨⟨_, rfl⟩, Row2.congr (Row2.draw (Row2.put (Row2.put (Row2.put (Row2.put hRx (by decide)) (by decide)) (by decide)) (by decide))) (fun j hj => by match j, hj with | 0, _ => rfl | 1, _ => rfl | 2, _ => rfl | 3, _ => rfl | 4, _ => rfl | 5, _ => rfl | 6, _ => rfl | 7, _ => rfl), by repeat (first | exact (((hBx.setCell hB _).setCell hB _).setCell hB _).setCell hB _ | apply Below.drew)⟩

theorem stable_any (g cap B : Nat) (f : Nat → Int) (w : World) (hr : Row2 g f w) (hB : B ≤ g) (hlt : f 4 < f 0) :
    Calls Try.prog 85 #[.slice (some ⟨g, 0, none⟩) 2 cap, .int .i64 2, .func (.func 75) #[] #[]] w fun e w' => (∃ v, e = .returned v) ∧ Row2 g (swap f) w' ∧ Below B w w' := by
  go_enter Try.func85, Try.ntmps85
  go_wp2
  refine wp_loop_rounds 1 ?_
  rw [rounds_succ]
  go_wp2_with (go_at_call 89; refine (insert_any _ _ _ _ _ hr hB hlt).mono ?_; rintro e w1 ⟨⟨v, rfl⟩, h1, h2⟩)
  refine wp_loop_rounds 1 ?_
  rw [rounds_succ]
  go_wp2
  go_end0
  exact ⟨⟨_, rfl⟩, h1, h2⟩

theorem sort_any (g cap B : Nat) (f : Nat → Int) (w : World) (hr : Row2 g f w) (hB : B ≤ g) (hlt : f 4 < f 0) :
    Calls Try.prog 74 #[.slice (some ⟨g, 0, none⟩) 2 cap, .func (.func 75) #[] #[]] w fun e w' => (∃ v, e = .returned v) ∧ Row2 g (swap f) w' ∧ Below B w w' := by
  go_enter Try.func74, Try.ntmps74
  go_wp2_with (go_at_call 85; refine (stable_any _ _ _ _ _ hr hB hlt).mono ?_; rintro e w1 ⟨⟨v, rfl⟩, h1, h2⟩)
  go_end0
  exact ⟨⟨_, rfl⟩, h1, h2⟩
end Go.Proofs.Ytcgafhpbcdmigaa.Tn
