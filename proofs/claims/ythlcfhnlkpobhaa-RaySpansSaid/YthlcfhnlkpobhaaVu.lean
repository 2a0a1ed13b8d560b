/- The contracts of directions one long. -/
import Derived.Test.YthlcfhnlkpobhaaVf
import Derived.Test.YthlcfhnlkpobhaaVo
import Derived.Test.YthlcfhnlkpobhaaVd
import Derived.Test.YthlcfhnlkpobhaaVed
namespace Go.Proofs.Ythlcfhnlkpobhaa.Ve
open Go.RowKit Go.Proofs.Ythlcfhnlkpobhaa Go.Proofs.Ythlcfhnlkpobhaa.Wa

/-- how long a direction is -/
def len3 (x y z : Int) : Int := Pl.root (Pl.add (Pl.add (Pl.add 0 (Pl.mul x x)) (Pl.mul y y)) (Pl.mul z z))

/-- a number of a direction, by its length -/
def un (x y z c : Int) : Int := if len3 x y z = 0 then 0 else Pl.div c (len3 x y z)

theorem un_zero {x y z : Int} (h : len3 x y z = 0) (c : Int) : un x y z c = 0 := by unfold un; rw [if_pos h]

theorem un_some {x y z : Int} (h : ¬ len3 x y z = 0) (c : Int) : un x y z c = Pl.div c (len3 x y z) := by unfold un; rw [if_neg h]

theorem v3_eq {a b c d e f : Int} (h1 : a = d) (h2 : b = e) (h3 : c = f) : V3 a b c = V3 d e f := by rw [h1, h2, h3]

set_option maxHeartbeats 1000000 in
theorem vunit_zero (ax ay az : Int) (h : len3 ax ay az = 0) (w : World) :
    Calls Try.prog 148 #[V3 ax ay az] w fun e w' => e = .returned (V3 0 0 0) ∧ Below w.heap.size w w' := by
  have hl := len_any3 ax ay az
  change ∀ w, Calls Try.prog 178 #[V3 ax ay az] w (fun e w' => e = .returned (.int .i64 (len3 ax ay az)) ∧ Below w.heap.size w w') at hl
  rw [h] at hl
  have HL := Lib.hid hl
  clear hl
  go_enter Try.func148, Try.ntmps148
  go_wp2_with fail
  refine (HL.out _).mono ?_
  rintro e w1 ⟨rfl, hbk⟩
  obtain ⟨hc, hf⟩ := bcell hbk
  go_wp2
  exact bodyPost_ret (v := V3 0 0 0) (by simp [results, Try.results148, go_sem, hc]) rfl ⟨rfl, below_put3 (below_c2 hbk) (by omega) _ _ _⟩

set_option maxHeartbeats 2000000 in
theorem vunit_some (ax ay az n : Int) (hn : Hid (len3 ax ay az = n)) (h : ¬ n = 0) (w : World) :
    Calls Try.prog 148 #[V3 ax ay az] w fun e w' => e = .returned (V3 (Pl.div ax n) (Pl.div ay n) (Pl.div az n)) ∧ Below w.heap.size w w' := by
  have hl := len_any3 ax ay az
  change ∀ w, Calls Try.prog 178 #[V3 ax ay az] w (fun e w' => e = .returned (.int .i64 (len3 ax ay az)) ∧ Below w.heap.size w w') at hl
  rw [hn.out] at hl
  have HL := Lib.hid hl
  clear hl
  have l2 : w.heap.size < w.heap.size + 1 + 1 := by omega
  go_enter Try.func148, Try.ntmps148
  go_wp2_with fail
  refine (HL.out _).mono ?_
  rintro e w1 ⟨rfl, hbk⟩
  obtain ⟨hc, hf⟩ := bcell hbk
  go_wp2_with fail
  go_region_held3 (fun w' => w'.cell? ⟨w.heap.size, 0, none⟩ = some (.int .i64 ax) ∧ w'.cell? ⟨w.heap.size, 1, none⟩ = some (.int .i64 ay) ∧ w'.cell? ⟨w.heap.size, 2, none⟩ = some (.int .i64 az)) (go_keep) (first | (go_at_call 137; refine (new_any _ _ _ _).mono ?_; rintro e w9 ⟨rfl, hbn⟩; (first | (replace hbk := hbk.trans (hbn.mono hbk.size)) | (replace hbk := hbk.drew.trans (hbn.mono hbk.drew.size)) | (have hbk := hbn)); obtain ⟨hc, hf⟩ := bcell hbk) | (go_at_call 131; refine (each_div _ _ _ _ _ _ _).mono ?_; rintro e w9 ⟨rfl, hbn⟩; (first | (replace hbk := hbk.trans (hbn.mono hbk.size)) | (replace hbk := hbk.drew.trans (hbn.mono hbk.drew.size)) | (have hbk := hbn)); obtain ⟨hc, hf⟩ := bcell hbk))
  go_wp2
  exact bodyPost_ret (v := V3 (Pl.div ax n) (Pl.div ay n) (Pl.div az n)) (by simp [results, Try.results148, go_sem, hc]) rfl ⟨rfl, below_put3 (below_c2 hbk) (by omega) _ _ _⟩

theorem vunit_any (ax ay az : Int) (w : World) :
    Calls Try.prog 148 #[V3 ax ay az] w fun e w' => e = .returned (V3 (un ax ay az ax) (un ax ay az ay) (un ax ay az az)) ∧ Below w.heap.size w w' := by
  by_cases h : len3 ax ay az = 0
  · rw [v3_eq (un_zero h ax) (un_zero h ay) (un_zero h az)]; exact vunit_zero ax ay az h w
  · rw [v3_eq (un_some h ax) (un_some h ay) (un_some h az)]; exact vunit_some ax ay az _ (Lib.hid rfl) h w

end Go.Proofs.Ythlcfhnlkpobhaa.Ve
