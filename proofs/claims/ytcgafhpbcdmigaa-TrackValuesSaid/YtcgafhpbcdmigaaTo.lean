/- Reverse: two keys in a row of their own: what the library's functions that Make calls do to them (the document's example). -/
import Derived.Test.YtcgafhpbcdmigaaTn
import Derived.Test.YtcgafhpbcdmigaaLs
import Derived.Test.YtcgafhpbcdmigaaVg
import Derived.Deep.AppendLies
import Derived.Deep.DeepCutAuto
namespace Go.Proofs.Ytcgafhpbcdmigaa.Tn
open Go.RowKit Go.Proofs.Ytcgafhpbcdmigaa Go.Proofs.Ytcgafhpbcdmigaa.Wa Go.Proofs.Ytcgafhpbcdmigaa.Ve Go.Proofs.Ytcgafhpbcdmigaa.Tk Go.Proofs.Ytcgafhpbcdmigaa.Ls


/-- the two keys in the other order -/
def swap (f : Nat → Int) (j : Nat) : Int := if j < 4 then f (j + 4) else f (j - 4)

theorem Row2.put {g : Nat} {f : Nat → Int} {w : World} (h : Row2 g f w) {i : Nat} {x : Int} (hi : i < 8) : Row2 g (fun j => if j = i then x else f j) (w.setCell ⟨g, i, none⟩ (.int .i64 x)) := by
  refine ⟨by simpa using h.1, fun j hj => ?_, fun j => by rw [World.frozen?_setCell]; exact h.2.2 j⟩
  by_cases e : j = i
  · subst e; dsimp only; rw [if_pos rfl]; exact World.cell?_setCell_same' _ _ _ (by rw [h.2.1 j hj]; rfl)
  · dsimp only; rw [if_neg e, World.cell?_setCell_other _ _ _ _ (by first | (simp; done) | (simp; omega))]; exact h.2.1 j hj

theorem Row2.draw {g : Nat} {f : Nat → Int} {w : World} (h : Row2 g f w) : Row2 g f w.drew := h

theorem Row2.congr {g : Nat} {f f' : Nat → Int} {w : World} (h : Row2 g f w) (he : ∀ j, j < 8 → f j = f' j) : Row2 g f' w :=
  ⟨h.1, fun j hj => by rw [← he j hj]; exact h.2.1 j hj, h.2.2⟩

set_option maxHeartbeats 1000000 in
set_option maxRecDepth 100000 in
theorem reverse_any (g cap B : Nat) (f : Nat → Int) (w : World) (hr : Row2 g f w) (hB : B ≤ g) :
    Calls Try.prog 73 #[.slice (some ⟨g, 0, none⟩) 2 cap] w fun e w' => (∃ v, e = .returned v) ∧ Row2 g (swap f) w' ∧ Below B w w' := by
  have HR := Lib.hid hr
  obtain ⟨hg, hc, hf⟩ := hr
  have c0 := hc 0 (by omega)
  have c1 := hc 1 (by omega)
  have c2 := hc 2 (by omega)
  have c3 := hc 3 (by omega)
  have c4 := hc 4 (by omega)
  have c5 := hc 5 (by omega)
  have c6 := hc 6 (by omega)
  have c7 := hc 7 (by omega)
  clear hc
  go_enter Try.func73, Try.ntmps73
  go_wp2
  refine wp_loop_rounds 2 ?_
  rw [rounds_succ]
  go_wp2_with fail
  refine wp_region_any (by kernel_rfl) ?_
  (try (change wpAny _ _ _ _ _ _ _ (World.drew _)))
  refine wpAny_take (i := 0) (v := ?_) rfl (by kernel_rfl) (by kernel_rfl) (by kernel_rfl) (fun _ _ _ h => h) (Or.inl ⟨by kernel_rfl, by (intro w; go_simp; try with_reducible rfl)⟩) ?_
  go_simp
  refine wpAny_take (i := 1) (v := ?_) rfl (by kernel_rfl) (by kernel_rfl) (by kernel_rfl) (fun _ _ _ h => h) (Or.inl ⟨by kernel_rfl, by (intro w; go_simp; try with_reducible rfl)⟩) ?_
  go_simp
  refine wpAny_take (i := 2) (v := ?_) rfl (by kernel_rfl) (by kernel_rfl) (by kernel_rfl) (fun _ _ _ h => h) (Or.inl ⟨by kernel_rfl, by (intro w; go_simp; try with_reducible rfl)⟩) ?_
  go_simp
  refine wpAny_take (i := 3) (v := ?_) rfl (by kernel_rfl) (by kernel_rfl) (by kernel_rfl) (fun _ _ _ h => h) (Or.inl ⟨by kernel_rfl, by (intro w; go_simp; try with_reducible rfl)⟩) ?_
  go_simp
  refine wpAny_take (i := 4) (v := ?_) rfl (by kernel_rfl) (by kernel_rfl) (by kernel_rfl) (fun _ _ _ h => h) (Or.inl ⟨by kernel_rfl, by (intro w; go_simp; try with_reducible rfl)⟩) ?_
  go_simp
  refine wpAny_take (i := 5) (v := ?_) rfl (by kernel_rfl) (by kernel_rfl) (by kernel_rfl) (fun _ _ _ h => h) (Or.inl ⟨by kernel_rfl, by (intro w; go_simp; try with_reducible rfl)⟩) ?_
  go_simp
  refine wpAny_take (i := 6) (v := ?_) rfl (by kernel_rfl) (by kernel_rfl) (by kernel_rfl) (fun _ _ _ h => h) (Or.inl ⟨by kernel_rfl, by (intro w; go_simp; try with_reducible rfl)⟩) ?_
  go_simp
  refine wpAny_take (i := 8) (v := ?_) rfl (by kernel_rfl) (by kernel_rfl) (by kernel_rfl) (fun _ _ _ h => h) (Or.inl ⟨by kernel_rfl, by (intro w; go_simp; try with_reducible rfl)⟩) ?_
  go_simp
  refine wpAny_take (i := 9) (v := ?_) rfl (by kernel_rfl) (by kernel_rfl) (by kernel_rfl) (fun _ _ _ h => h) (Or.inl ⟨by kernel_rfl, by (intro w; go_simp; try with_reducible rfl)⟩) ?_
  go_simp
  refine wpAny_take (i := 10) (v := ?_) rfl (by kernel_rfl) (by kernel_rfl) (by kernel_rfl) (fun _ _ _ h => h) (Or.inl ⟨by kernel_rfl, by (intro w; go_simp; try with_reducible rfl)⟩) ?_
  go_simp
  refine wpAny_ready (rs := [7, 11]) (by kernel_rfl) (by simp) ?_
  refine AllReady.cons rfl (fun K hK => ?_) (AllReady.cons rfl (fun K hK => ?_) AllReady.nil)
  · skip
    go_simp
    (refine hK _ _ ?_; clear hK K)
    refine wpAny_ready (rs := [11]) (by kernel_rfl) (by simp) ?_
    refine AllReady.cons rfl (fun K hK => ?_) AllReady.nil
    go_simp
    (refine hK _ _ ?_; clear hK K)
    refine wpAny_take (i := 12) (v := ?_) rfl (by kernel_rfl) (by kernel_rfl) (by kernel_rfl) (fun _ _ _ h => h) (Or.inl ⟨by kernel_rfl, by (intro w; go_simp; try with_reducible rfl)⟩) ?_
    go_simp
    refine wpAny_ready (rs := [13]) (by kernel_rfl) (by simp) ?_
    refine AllReady.cons rfl (fun K hK => ?_) AllReady.nil
    go_simp
    (refine hK _ _ ?_; clear hK K)
    obtain ⟨wx, hwx⟩ : ∃ wx, wx = World.drew ((((w.setCell ⟨g, 0, none⟩ (.int .i64 (f 4))).setCell ⟨g, 1, none⟩ (.int .i64 (f 5))).setCell ⟨g, 2, none⟩ (.int .i64 (f 6))).setCell ⟨g, 3, none⟩ (.int .i64 (f 7))) := ⟨_, rfl⟩
    have hRx := Row2.congr (f' := fun j => if 0 ≤ j ∧ j < 4 then f (if j < 4 then j + 4 else j - 4) else f j) (w := wx) (by rw [hwx]; exact Row2.draw (Row2.put (Row2.put (Row2.put (Row2.put HR.out (by decide)) (by decide)) (by decide)) (by decide))) (fun j hj => by match j, hj with | 0, _ => rfl | 1, _ => rfl | 2, _ => rfl | 3, _ => rfl | 4, _ => rfl | 5, _ => rfl | 6, _ => rfl | 7, _ => rfl)
    have hBx : Below B w wx := by rw [hwx]; exact (((((Below.refl _ _).setCell hB _).setCell hB _).setCell hB _).setCell hB _).drew
    rw [← hwx]
    clear hwx c0 c1 c2 c3 c4 c5 c6 c7 hf hg
    obtain ⟨hg, hc, hf⟩ := id hRx
    have c0 : wx.cell? ⟨g, 0, none⟩ = some (.int .i64 (f 4)) := hc 0 (by omega)
    have c1 : wx.cell? ⟨g, 1, none⟩ = some (.int .i64 (f 5)) := hc 1 (by omega)
    have c2 : wx.cell? ⟨g, 2, none⟩ = some (.int .i64 (f 6)) := hc 2 (by omega)
    have c3 : wx.cell? ⟨g, 3, none⟩ = some (.int .i64 (f 7)) := hc 3 (by omega)
    have c4 : wx.cell? ⟨g, 4, none⟩ = some (.int .i64 (f 4)) := hc 4 (by omega)
    have c5 : wx.cell? ⟨g, 5, none⟩ = some (.int .i64 (f 5)) := hc 5 (by omega)
    have c6 : wx.cell? ⟨g, 6, none⟩ = some (.int .i64 (f 6)) := hc 6 (by omega)
    have c7 : wx.cell? ⟨g, 7, none⟩ = some (.int .i64 (f 7)) := hc 7 (by omega)
    clear hc
    refine wpAny_take (i := 14) (v := ?_) rfl (by kernel_rfl) (by kernel_rfl) (by kernel_rfl) (fun _ _ _ h => h) (Or.inl ⟨by kernel_rfl, by (intro w; go_simp; try with_reducible rfl)⟩) ?_
    go_simp
    refine wpAny_ready (rs := [15]) (by kernel_rfl) (by simp) ?_
    refine AllReady.cons rfl (fun K hK => ?_) AllReady.nil
    go_simp
    (refine hK _ _ ?_; clear hK K)
    refine wpAny_done (by kernel_rfl) ?_ _
    go_wp2
    rw [rounds_succ]
    go_wp2
    go_end0
    exact ⟨⟨_, rfl⟩, Row2.congr (Row2.put (Row2.put (Row2.put (Row2.put hRx (by decide)) (by decide)) (by decide)) (by decide)) (fun j hj => by match j, hj with | 0, _ => rfl | 1, _ => rfl | 2, _ => rfl | 3, _ => rfl | 4, _ => rfl | 5, _ => rfl | 6, _ => rfl | 7, _ => rfl), (((hBx.setCell hB _).setCell hB _).setCell hB _).setCell hB _⟩
  · skip
    go_simp
    (refine hK _ _ ?_; clear hK K)
    refine wpAny_ready (rs := [7]) (by kernel_rfl) (by simp) ?_
    refine AllReady.cons rfl (fun K hK => ?_) AllReady.nil
    go_simp
    (refine hK _ _ ?_; clear hK K)
    refine wpAny_take (i := 12) (v := ?_) rfl (by kernel_rfl) (by kernel_rfl) (by kernel_rfl) (fun _ _ _ h => h) (Or.inl ⟨by kernel_rfl, by (intro w; go_simp; try with_reducible rfl)⟩) ?_
    go_simp
    refine wpAny_ready (rs := [13]) (by kernel_rfl) (by simp) ?_
    refine AllReady.cons rfl (fun K hK => ?_) AllReady.nil
    go_simp
    (refine hK _ _ ?_; clear hK K)
    obtain ⟨wx, hwx⟩ : ∃ wx, wx = World.drew ((((w.setCell ⟨g, 0, none⟩ (.int .i64 (f 4))).setCell ⟨g, 1, none⟩ (.int .i64 (f 5))).setCell ⟨g, 2, none⟩ (.int .i64 (f 6))).setCell ⟨g, 3, none⟩ (.int .i64 (f 7))) := ⟨_, rfl⟩
    have hRx := Row2.congr (f' := fun j => if 0 ≤ j ∧ j < 4 then f (if j < 4 then j + 4 else j - 4) else f j) (w := wx) (by rw [hwx]; exact Row2.draw (Row2.put (Row2.put (Row2.put (Row2.put HR.out (by decide)) (by decide)) (by decide)) (by decide))) (fun j hj => by match j, hj with | 0, _ => rfl | 1, _ => rfl | 2, _ => rfl | 3, _ => rfl | 4, _ => rfl | 5, _ => rfl | 6, _ => rfl | 7, _ => rfl)
    have hBx : Below B w wx := by rw [hwx]; exact (((((Below.refl _ _).setCell hB _).setCell hB _).setCell hB _).setCell hB _).drew
    rw [← hwx]
    clear hwx c0 c1 c2 c3 c4 c5 c6 c7 hf hg
    obtain ⟨hg, hc, hf⟩ := id hRx
    have c0 : wx.cell? ⟨g, 0, none⟩ = some (.int .i64 (f 4)) := hc 0 (by omega)
    have c1 : wx.cell? ⟨g, 1, none⟩ = some (.int .i64 (f 5)) := hc 1 (by omega)
    have c2 : wx.cell? ⟨g, 2, none⟩ = some (.int .i64 (f 6)) := hc 2 (by omega)
    have c3 : wx.cell? ⟨g, 3, none⟩ = some (.int .i64 (f 7)) := hc 3 (by omega)
    have c4 : wx.cell? ⟨g, 4, none⟩ = some (.int .i64 (f 4)) := hc 4 (by omega)
    have c5 : wx.cell? ⟨g, 5, none⟩ = some (.int .i64 (f 5)) := hc 5 (by omega)
    have c6 : wx.cell? ⟨g, 6, none⟩ = some (.int .i64 (f 6)) := hc 6 (by omega)
    have c7 : wx.cell? ⟨g, 7, none⟩ = some (.int .i64 (f 7)) := hc 7 (by omega)
    clear hc
    refine wpAny_take (i := 14) (v := ?_) rfl (by kernel_rfl) (by kernel_rfl) (by kernel_rfl) (fun _ _ _ h => h) (Or.inl ⟨by kernel_rfl, by (intro w; go_simp; try with_reducible rfl)⟩) ?_
    go_simp
    refine wpAny_ready (rs := [15]) (by kernel_rfl) (by simp) ?_
    refine AllReady.cons rfl (fun K hK => ?_) AllReady.nil
    go_simp
    (refine hK _ _ ?_; clear hK K)
    refine wpAny_done (by kernel_rfl) ?_ _
    go_wp2
    rw [rounds_succ]
    go_wp2
    go_end0
    exact ⟨⟨_, rfl⟩, Row2.congr (Row2.put (Row2.put (Row2.put (Row2.put hRx (by decide)) (by decide)) (by decide)) (by decide)) (fun j hj => by match j, hj with | 0, _ => rfl | 1, _ => rfl | 2, _ => rfl | 3, _ => rfl | 4, _ => rfl | 5, _ => rfl | 6, _ => rfl | 7, _ => rfl), (((hBx.setCell hB _).setCell hB _).setCell hB _).setCell hB _⟩
end Go.Proofs.Ytcgafhpbcdmigaa.Tn
