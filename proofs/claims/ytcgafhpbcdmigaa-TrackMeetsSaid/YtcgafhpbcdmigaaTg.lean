/- Make at two keys, and the document's example, asked by each statement of layer 6. -/
import Derived.Test.YtcgafhpbcdmigaaTh
import Derived.Test.YtcgafhpbcdmigaaTj
import Derived.Test.YtcgafhpbcdmigaaTa
namespace Go.Proofs.Ytcgafhpbcdmigaa.Tn
open Go.RowKit Go.Proofs.Ytcgafhpbcdmigaa Go.Proofs.Ytcgafhpbcdmigaa.Wa Go.Proofs.Ytcgafhpbcdmigaa.Ve Go.Proofs.Ytcgafhpbcdmigaa.Tk Go.Proofs.Ytcgafhpbcdmigaa.Ls

theorem row_keys {g : Nat} {f : Nat → Int} {w : World} (h : Row2 g f w) : KeysAt w (some ⟨g, 0, none⟩) 2 f :=
  ⟨by omega, .inr ⟨g, 0, rfl, h.1, fun j hj => by rw [Nat.zero_add]; exact h.2.1 j (by omega)⟩⟩

theorem swap2 (f : Nat → Int) : ∀ j, j < 8 → swap (swap f) j = f j := by
  intro j hj
  match j, hj with | 0, _ => rfl | 1, _ => rfl | 2, _ => rfl | 3, _ => rfl | 4, _ => rfl | 5, _ => rfl | 6, _ => rfl | 7, _ => rfl

set_option maxHeartbeats 2000000 in
set_option maxRecDepth 100000 in
theorem make_any (g cap : Nat) (f : Nat → Int) (w : World) (hr : Row2 g f w) (hlt : f 0 < f 4) (hri : Hid (rightB 1 2 f = true)) :
    Calls Try.prog 60 #[.int .i64 1, .slice (some ⟨g, 0, none⟩) 2 cap] w fun e w' => (∃ g' cap', e = .returned (.tuple #[.agg #[.int .i64 1, .slice (some ⟨g', 0, none⟩) 2 cap'], .int .i64 0]) ∧ Row2 g' f w') ∧ Below w.heap.size w w' := by
  have hr0 := hr.on (below_n1 w (.cells #[.int .i64 0, .slice none 0 0] 58))
  go_enter Try.func60, Try.ntmps60
  go_wp2_with fail
  refine (clone_any _ _ _ _ hr0).mono ?_
  rintro e w1 ⟨⟨g1, cap1, rfl, h1, hg1⟩, hb1⟩
  simp at hg1
  go_wp2_with fail
  refine (reverse_any g1 cap1 (w.heap.size + 1) f w1 h1 hg1).mono ?_
  rintro e w2 ⟨⟨v2, rfl⟩, h2, hb2⟩
  go_wp2_with fail
  refine (sort_any g1 cap1 (w.heap.size + 1) (swap f) w2 h2 hg1 hlt).mono ?_
  rintro e w3 ⟨⟨v3, rfl⟩, h3', hb3⟩
  have h3 := h3'.congr (swap2 f)
  go_wp2_with fail
  refine (compact_any g1 cap1 f w3 h3 (by omega)).mono ?_
  rintro e w4 ⟨rfl, hb4⟩
  have h4 := h3.on hb4
  have hbx : Below (w.heap.size + 1) (w.alloc (.cells #[.int .i64 0, .slice none 0 0] 58)) w4 := (((hb1.mono (by simp)).trans hb2).trans hb3).trans (hb4.mono (by have := hb1.size; have := hb2.size; have := hb3.size; simp at *; omega))
  have hz := hbx.size
  simp at hz
  obtain ⟨hc, hf⟩ := (⟨fun b o h => hbx.cell (p := ⟨b, o, none⟩) h, fun b o h => hbx.frozen (p := ⟨b, o, none⟩) h⟩ : (∀ b o, b < w.heap.size + 1 → w4.cell? ⟨b, o, none⟩ = (w.alloc (.cells #[.int .i64 0, .slice none 0 0] 58)).cell? ⟨b, o, none⟩) ∧ (∀ b o, b < w.heap.size + 1 → w4.frozen? ⟨b, o, none⟩ = (w.alloc (.cells #[.int .i64 0, .slice none 0 0] 58)).frozen? ⟨b, o, none⟩))
  have r0 : w4.cell? ⟨w.heap.size, 0, none⟩ = some (.int .i64 0) := by rw [hc _ _ (by omega)]; go_simp
  have r1 : w4.cell? ⟨w.heap.size, 1, none⟩ = some (.slice none 0 0) := by rw [hc _ _ (by omega)]; go_simp
  have rf : ∀ j, w4.frozen? ⟨w.heap.size, j, none⟩ = false := by intro j; rw [hf _ _ (by omega)]; go_simp
  have z1 : w.heap.size < w4.heap.size := by omega
  have hbw : Below w.heap.size w w4 := (below_n1 w (.cells #[.int .i64 0, .slice none 0 0] 58)).trans (hbx.mono (by omega))
  clear hc hf h1 h2 h3 h3' hr0 hr hb1 hb2 hb3 hb4 hbx
  have h5 := h4.on (below_n1 w4 (.cells #[.int .i64 1, .slice (some ⟨g1, 0, none⟩) 2 cap1] 58))
  go_wp2_with fail
  refine (right_is _ _ _ _ _ true hri.out _ (row_keys h5)).mono ?_
  rintro e w5 ⟨rfl, hb5⟩
  have h6 := h5.on hb5
  have hz5 := hb5.size
  simp at hz5
  obtain ⟨hc, hf⟩ := bcell hb5
  have s0 : w5.cell? ⟨w.heap.size, 0, none⟩ = some (.int .i64 0) := by rw [hc _ _ (by simp; omega)]; exact old1 _ z1 r0
  have s1 : w5.cell? ⟨w.heap.size, 1, none⟩ = some (.slice none 0 0) := by rw [hc _ _ (by simp; omega)]; exact old1 _ z1 r1
  have sf : ∀ j, w5.frozen? ⟨w.heap.size, j, none⟩ = false := by intro j; rw [hf _ _ (by simp; omega)]; simp [go_sem, rf, z1]
  have x0 : w5.cell? ⟨w4.heap.size, 0, none⟩ = some (.int .i64 1) := by rw [hc _ _ (by simp)]; go_simp
  have x1 : w5.cell? ⟨w4.heap.size, 1, none⟩ = some (.slice (some ⟨g1, 0, none⟩) 2 cap1) := by rw [hc _ _ (by simp)]; go_simp
  have hbe : Below w.heap.size w w5 := hbw.trans ((below_n1 w4 _).trans (hb5.mono (by simp)) |>.mono hbw.size)
  have hne : g1 ≠ w.heap.size := by omega
  clear hc hf r0 r1 rf
  go_wp2
  refine bodyPost_ret (v := .tuple #[.agg #[.int .i64 1, .slice (some ⟨g1, 0, none⟩) 2 cap1], .int .i64 0]) (by simp [results, Try.results60, go_sem, s0, s1]) rfl ⟨⟨_, _, rfl, ?_⟩, (hbe.setCell (by simp) _).setCell (by simp) _⟩
  exact ⟨by simpa using h6.1, fun j hj => by rw [far1 hne, far1 hne]; exact h6.2.1 j hj, fun j => by rw [World.frozen?_setCell, World.frozen?_setCell]; exact h6.2.2 j⟩

/-- the example's numbers -/
def exF (j : Nat) : Int := if j = 4 then 262144 else if j = 5 then 131072 else 0

theorem ex_right : rightB 1 2 exF = true := by decide +kernel

theorem ex_at (a : Option Addr) (cap : Nat) (w : World) (hk : KeysAt w a 2 exF) :
    Calls Try.prog 41 #[.agg #[.int .i64 1, .slice a 2 cap], .int .i64 196608] w fun e w' => e = .returned (V3 98304 0 0) ∧ Below w.heap.size w w' := by
  have := at_any 1 a 2 cap exF 196608 w hk
  rwa [show valN 1 2 exF 196608 1 = 98304 by decide +kernel, show valN 1 2 exF 196608 2 = 0 by decide +kernel, show valN 1 2 exF 196608 3 = 0 by decide +kernel] at this

theorem ex_row (w : World) (t : TypeId) : Row2 w.heap.size exF (w.alloc (.cells #[.int .i64 0, .int .i64 0, .int .i64 0, .int .i64 0, .int .i64 262144, .int .i64 131072, .int .i64 0, .int .i64 0] t)) := by
  refine ⟨by simp, fun j hj => ?_, fun j => by go_simp⟩
  match j, hj with
  | 0, _ => go_simp; rfl
  | 1, _ => go_simp; rfl
  | 2, _ => go_simp; rfl
  | 3, _ => go_simp; rfl
  | 4, _ => go_simp; rfl
  | 5, _ => go_simp; rfl
  | 6, _ => go_simp; rfl
  | 7, _ => go_simp; rfl

set_option maxHeartbeats 1000000 in
theorem awake_any (w : World) : Calls Try.prog 34 #[] w fun e w' => e = .returned (.bool true) ∧ Below w.heap.size w w' := by
  go_enter Try.func34, Try.ntmps34
  go_wp2_with fail
  refine (make_any _ _ exF _ (ex_row _ _) (by decide) (Lib.hid ex_right)).mono ?_
  rintro e w1 ⟨⟨g1, cap1, rfl, h1⟩, hb1⟩
  have h2 := h1.on (below_n1 w1 (.cells #[.int .i64 1, .slice (some ⟨g1, 0, none⟩) 2 cap1] 58))
  go_wp2_with (go_at_call 41; refine (ex_at _ _ _ (row_keys h2)).mono ?_; rintro e w2 ⟨rfl, hb2⟩)
  go_ret
  exact ⟨rfl, (below_c1 hb1).trans ((below_c1 hb2).mono (below_c1 hb1).size)⟩
end Go.Proofs.Ytcgafhpbcdmigaa.Tn
