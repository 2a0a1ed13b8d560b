/- The contracts of directions one long. -/
import Derived.Test.YtplcbdmiccpnnaaVf
import Derived.Test.YtplcbdmiccpnnaaVo
import Derived.Test.YtplcbdmiccpnnaaVd
import Derived.Test.YtplcbdmiccpnnaaVed
namespace Go.Proofs.Ytplcbdmiccpnnaa.Ve
open Go.RowKit Go.Proofs.Ytplcbdmiccpnnaa Go.Proofs.Ytplcbdmiccpnnaa.Wa

/-- how long a direction is -/
def len3 (x y z : Int) : Int := Pl.root (Pl.add (Pl.add (Pl.add 0 (Pl.mul x x)) (Pl.mul y y)) (Pl.mul z z))

/-- a number of a direction, by its length -/
def un (x y z c : Int) : Int := if len3 x y z = 0 then 0 else Pl.div c (len3 x y z)

theorem un_zero {x y z : Int} (h : len3 x y z = 0) (c : Int) : un x y z c = 0 := by unfold un; rw [if_pos h]

theorem un_some {x y z : Int} (h : ¬ len3 x y z = 0) (c : Int) : un x y z c = Pl.div c (len3 x y z) := by unfold un; rw [if_neg h]

theorem v3_eq {a b c d e f : Int} (h1 : a = d) (h2 : b = e) (h3 : c = f) : V3 a b c = V3 d e f := by rw [h1, h2, h3]

set_option maxHeartbeats 1000000 in
theorem vunit_zero (ax ay az : Int) (h : len3 ax ay az = 0) (w : World) :
    Calls Try.prog 32 #[V3 ax ay az] w fun e w' => e = .returned (V3 0 0 0) ∧ Below w.heap.size w w' := by
  have hl := len_any3 ax ay az
  change ∀ w, Calls Try.prog 56 #[V3 ax ay az] w (fun e w' => e = .returned (.int .i64 (len3 ax ay az)) ∧ Below w.heap.size w w') at hl
  rw [h] at hl
  have HL := Lib.hid hl
  clear hl
  go_enter Try.func32, Try.ntmps32
  go_wp2_with fail
  refine (HL.out _).mono ?_
  rintro e w1 ⟨rfl, hbk⟩
  obtain ⟨hc, hf⟩ := bcell hbk
  go_wp2
  exact bodyPost_ret (v := V3 0 0 0) (by simp [results, Try.results32, go_sem, hc]) rfl ⟨rfl, below_put3 (below_c2 hbk) (by omega) _ _ _⟩

set_option maxHeartbeats 2000000 in
theorem vunit_some (ax ay az n : Int) (hn : Hid (len3 ax ay az = n)) (h : ¬ n = 0) (w : World) :
    Calls Try.prog 32 #[V3 ax ay az] w fun e w' => e = .returned (V3 (Pl.div ax n) (Pl.div ay n) (Pl.div az n)) ∧ Below w.heap.size w w' := by
  have hl := len_any3 ax ay az
  change ∀ w, Calls Try.prog 56 #[V3 ax ay az] w (fun e w' => e = .returned (.int .i64 (len3 ax ay az)) ∧ Below w.heap.size w w') at hl
  rw [hn.out] at hl
  have HL := Lib.hid hl
  clear hl
  have l2 : w.heap.size < w.heap.size + 1 + 1 := by omega
  go_enter Try.func32, Try.ntmps32
  go_wp2_with fail
  refine (HL.out _).mono ?_
  rintro e w1 ⟨rfl, hbk⟩
  obtain ⟨hc, hf⟩ := bcell hbk
  go_wp2_with fail
  go_region_held3 (fun w' => w'.cell? ⟨w.heap.size, 0, none⟩ = some (.int .i64 ax) ∧ w'.cell? ⟨w.heap.size, 1, none⟩ = some (.int .i64 ay) ∧ w'.cell? ⟨w.heap.size, 2, none⟩ = some (.int .i64 az)) (go_keep) (first | (go_at_call 57; refine (new_any _ _ _ _).mono ?_; rintro e w9 ⟨rfl, hbn⟩; (first | (replace hbk := hbk.trans (hbn.mono hbk.size)) | (replace hbk := hbk.drew.trans (hbn.mono hbk.drew.size)) | (have hbk := hbn)); obtain ⟨hc, hf⟩ := bcell hbk) | (go_at_call 43; refine (each_div _ _ _ _ _ _ _).mono ?_; rintro e w9 ⟨rfl, hbn⟩; (first | (replace hbk := hbk.trans (hbn.mono hbk.size)) | (replace hbk := hbk.drew.trans (hbn.mono hbk.drew.size)) | (have hbk := hbn)); obtain ⟨hc, hf⟩ := bcell hbk))
  go_wp2
  exact bodyPost_ret (v := V3 (Pl.div ax n) (Pl.div ay n) (Pl.div az n)) (by simp [results, Try.results32, go_sem, hc]) rfl ⟨rfl, below_put3 (below_c2 hbk) (by omega) _ _ _⟩

theorem vunit_any (ax ay az : Int) (w : World) :
    Calls Try.prog 32 #[V3 ax ay az] w fun e w' => e = .returned (V3 (un ax ay az ax) (un ax ay az ay) (un ax ay az az)) ∧ Below w.heap.size w w' := by
  by_cases h : len3 ax ay az = 0
  · rw [v3_eq (un_zero h ax) (un_zero h ay) (un_zero h az)]; exact vunit_zero ax ay az h w
  · rw [v3_eq (un_some h ax) (un_some h ay) (un_some h az)]; exact vunit_some ax ay az _ (Lib.hid rfl) h w

set_option maxHeartbeats 1000000 in
theorem runit_zero (ax ay az : Int) (h : len3 ax ay az = 0) (w : World) :
    Calls Try.prog 37 #[V3 ax ay az] w fun e w' => e = .returned (V3 0 0 0) ∧ Below w.heap.size w w' := by
  have hl := rlen_any ax ay az
  change ∀ w, Calls Try.prog 61 #[V3 ax ay az] w (fun e w' => e = .returned (.int .i64 (len3 ax ay az)) ∧ Below w.heap.size w w') at hl
  rw [h] at hl
  have HL := Lib.hid hl
  clear hl
  go_enter Try.func37, Try.ntmps37
  go_wp2_with fail
  refine (HL.out _).mono ?_
  rintro e w1 ⟨rfl, hbk⟩
  obtain ⟨hc, hf⟩ := bcell hbk
  go_wp2
  exact bodyPost_ret (v := V3 0 0 0) (by simp [results, Try.results37, go_sem, hc]) rfl ⟨rfl, below_put3 (below_c2 hbk) (by omega) _ _ _⟩

set_option maxHeartbeats 2000000 in
theorem runit_some (ax ay az n : Int) (hn : Hid (len3 ax ay az = n)) (h : ¬ n = 0) (w : World) :
    Calls Try.prog 37 #[V3 ax ay az] w fun e w' => e = .returned (V3 (Pl.div ax n) (Pl.div ay n) (Pl.div az n)) ∧ Below w.heap.size w w' := by
  have hl := rlen_any ax ay az
  change ∀ w, Calls Try.prog 61 #[V3 ax ay az] w (fun e w' => e = .returned (.int .i64 (len3 ax ay az)) ∧ Below w.heap.size w w') at hl
  rw [hn.out] at hl
  have HL := Lib.hid hl
  clear hl
  have l2 : w.heap.size < w.heap.size + 1 + 1 := by omega
  go_enter Try.func37, Try.ntmps37
  go_wp2_with fail
  refine (HL.out _).mono ?_
  rintro e w1 ⟨rfl, hbk⟩
  obtain ⟨hc, hf⟩ := bcell hbk
  go_wp2_with fail
  have hz := hbk.size
  simp at hz
  have n1 : w.heap.size ≠ w1.heap.size := by omega
  have n2 : w1.heap.size ≠ w.heap.size := by omega
  have n3 : w.heap.size + 1 ≠ w1.heap.size := by omega
  have n4 : w1.heap.size ≠ w.heap.size + 1 := by omega
  have l5 : w.heap.size < w1.heap.size := by omega
  have l6 : w.heap.size + 1 < w1.heap.size := by omega
  refine wp_loop_rounds 4 ?_
  rw [rounds_succ]
  go_wp2_with (first | (go_at_call 49; refine (refDiv_any _ _ _).mono ?_; rintro e w1 ⟨rfl, rfl⟩))
  rw [rounds_succ]
  go_wp2_with (first | (go_at_call 49; refine (refDiv_any _ _ _).mono ?_; rintro e w1 ⟨rfl, rfl⟩))
  rw [rounds_succ]
  go_wp2_with (first | (go_at_call 49; refine (refDiv_any _ _ _).mono ?_; rintro e w1 ⟨rfl, rfl⟩))
  rw [rounds_succ]
  go_wp2
  exact bodyPost_ret (v := V3 (Pl.div ax n) (Pl.div ay n) (Pl.div az n)) (by simp [results, Try.results37, go_sem, hc, l6]) rfl ⟨rfl, (below_put3 (below_c2 hbk) (by omega) _ _ _).alloc (by simp; omega) _⟩

theorem runit_any (ax ay az : Int) (w : World) :
    Calls Try.prog 37 #[V3 ax ay az] w fun e w' => e = .returned (V3 (un ax ay az ax) (un ax ay az ay) (un ax ay az az)) ∧ Below w.heap.size w w' := by
  by_cases h : len3 ax ay az = 0
  · rw [v3_eq (un_zero h ax) (un_zero h ay) (un_zero h az)]; exact runit_zero ax ay az h w
  · rw [v3_eq (un_some h ax) (un_some h ay) (un_some h az)]; exact runit_some ax ay az _ (Lib.hid rfl) h w

end Go.Proofs.Ytplcbdmiccpnnaa.Ve
