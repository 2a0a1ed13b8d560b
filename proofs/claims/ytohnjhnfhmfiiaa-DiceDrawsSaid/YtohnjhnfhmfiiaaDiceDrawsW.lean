/- The walk of DiceDraws: the law returns true, whatever key and numbers come in; nothing that was there is written. -/
import Derived.Test.YtohnjhnfhmfiiaaDk
import Derived.OpenShut
namespace Go.Proofs.Ytohnjhnfhmfiiaa.diceDrawsW
open Go.RowKit Go.Proofs.Ytohnjhnfhmfiiaa Go.Proofs.Ytohnjhnfhmfiiaa.Di

theorem held_on {W w9 : World} {p : Addr} {v : Value} (hbn : Below W.heap.size W w9) (h : W.cell? p = some v) : w9.cell? p = some v :=
  (hbn.cell (World.block_lt_of_cell? _ _ h)).trans h

theorem new_at (W : World) (n : Nat) (hn : n = W.heap.size) (cs : Array Value) (t : TypeId) (j : Nat) (u : Value) (h : cs[j]? = some u) : (W.alloc (.cells cs t)).cell? ⟨n, j, none⟩ = some u := by
  subst hn; simpa using h

set_option maxHeartbeats 4000000 in
set_option maxRecDepth 100000 in
theorem walk (s f p m d n : Int) (_w1 : (Lit.int .i64 d).wf = true) (w2 : (Lit.int .i64 n).wf = true) (w : World) :
    Calls Try.prog 11 #[K4 s f p m, .int .i64 d, .int .i64 n] w fun e w' => e = .returned (.bool true) ∧ Below w.heap.size w w' := by
  have hn : n ≤ 9223372036854775807 := (bounds_i64 w2).2
  have ⟨u0, u1⟩ := keyUnit_bd s f p m d
  go_enter Try.func11, Try.ntmps11
  go_wp2_with (go_at_call 54; refine (tokey_any _ _ _ _ _).mono ?_; rintro e w1 ⟨rfl, hb1⟩)
  have hbk : Below w.heap.size w w1 := below_kc hb1
  obtain ⟨hc, hf⟩ := kcell hb1
  have a0 : w1.cell? ⟨w.heap.size, 0, none⟩ = some (.int .u64 s) := (hc _ _ (by simp)).trans (by go_simp)
  have a1 : w1.cell? ⟨w.heap.size, 1, none⟩ = some (.int .i64 f) := (hc _ _ (by simp)).trans (by go_simp)
  have a2 : w1.cell? ⟨w.heap.size, 2, none⟩ = some (.int .i64 p) := (hc _ _ (by simp)).trans (by go_simp)
  have a3 : w1.cell? ⟨w.heap.size, 3, none⟩ = some (.int .i64 m) := (hc _ _ (by simp)).trans (by go_simp)
  have hs1 := hb1.size
  simp at hs1
  obtain ⟨wq, hwq⟩ : ∃ wq, wq = w1.alloc (Obj.cells #[.int .u64 s, .int .i64 f, .int .i64 p, .int .i64 m] 75) := ⟨_, rfl⟩
  rw [← hwq]
  have bq : Below w1.heap.size w1 wq := by subst hwq; exact below_k1 _ _
  have b0 := held_on bq a0
  have b1 := held_on bq a1
  have b2 := held_on bq a2
  have b3 := held_on bq a3
  have c0 : wq.cell? ⟨w1.heap.size, 0, none⟩ = some (.int .u64 s) := by subst hwq; exact new_at _ _ rfl _ _ 0 _ rfl
  have c1 : wq.cell? ⟨w1.heap.size, 1, none⟩ = some (.int .i64 f) := by subst hwq; exact new_at _ _ rfl _ _ 1 _ rfl
  have c2 : wq.cell? ⟨w1.heap.size, 2, none⟩ = some (.int .i64 p) := by subst hwq; exact new_at _ _ rfl _ _ 2 _ rfl
  have c3 : wq.cell? ⟨w1.heap.size, 3, none⟩ = some (.int .i64 m) := by subst hwq; exact new_at _ _ rfl _ _ 3 _ rfl
  replace hbk := hbk.trans (bq.mono hbk.size)
  clear hwq bq hc hf a0 a1 a2 a3 hb1 hs1
  go_region_held3 (fun w' => w'.cell? ⟨w.heap.size, 0, none⟩ = some (.int .u64 s) ∧ w'.cell? ⟨w.heap.size, 1, none⟩ = some (.int .i64 f) ∧ w'.cell? ⟨w.heap.size, 2, none⟩ = some (.int .i64 p) ∧ w'.cell? ⟨w.heap.size, 3, none⟩ = some (.int .i64 m) ∧ w'.cell? ⟨w1.heap.size, 0, none⟩ = some (.int .u64 s) ∧ w'.cell? ⟨w1.heap.size, 1, none⟩ = some (.int .i64 f) ∧ w'.cell? ⟨w1.heap.size, 2, none⟩ = some (.int .i64 p) ∧ w'.cell? ⟨w1.heap.size, 3, none⟩ = some (.int .i64 m)) (first | (go_keep; done) | (go_split_ands; (try dsimp only); exact ⟨held_on hbn (by assumption), held_on hbn (by assumption), held_on hbn (by assumption), held_on hbn (by assumption), held_on hbn (by assumption), held_on hbn (by assumption), held_on hbn (by assumption), held_on hbn (by assumption)⟩)) (first | (go_at_call 51; refine (awake_any _).mono ?_; rintro e w9 ⟨rfl, hbn⟩; (first | (replace hbk := hbk.trans (hbn.mono hbk.size)) | (replace hbk := hbk.drew.trans (hbn.mono hbk.drew.size)))) | (go_at_call 55; refine (bits_any _ _ _ _ _ _).mono ?_; rintro e w9 ⟨rfl, hbn⟩; (first | (replace hbk := hbk.trans (hbn.mono hbk.size)) | (replace hbk := hbk.drew.trans (hbn.mono hbk.drew.size)))) | (go_at_call 56; refine (rbits_any _ _ _ _ _ _).mono ?_; rintro e w9 ⟨rfl, hbn⟩; (first | (replace hbk := hbk.trans (hbn.mono hbk.size)) | (replace hbk := hbk.drew.trans (hbn.mono hbk.drew.size)))) | (go_at_call 57; refine (unit_any _ _ _ _ _ _).mono ?_; rintro e w9 ⟨rfl, hbn⟩; (first | (replace hbk := hbk.trans (hbn.mono hbk.size)) | (replace hbk := hbk.drew.trans (hbn.mono hbk.drew.size)))) | (go_at_call 58; refine (runit_any _ _ _ _ _ _).mono ?_; rintro e w9 ⟨rfl, hbn⟩; (first | (replace hbk := hbk.trans (hbn.mono hbk.size)) | (replace hbk := hbk.drew.trans (hbn.mono hbk.drew.size)))) | (go_at_call 59; refine (below_any _ _ _ _ _ _ hn _).mono ?_; rintro e w9 ⟨rfl, hbn⟩; (first | (replace hbk := hbk.trans (hbn.mono hbk.size)) | (replace hbk := hbk.drew.trans (hbn.mono hbk.drew.size)))) | (go_at_call 60; refine (rbelow_any _ _ _ _ _ _ hn _).mono ?_; rintro e w9 ⟨rfl, hbn⟩; (first | (replace hbk := hbk.trans (hbn.mono hbk.size)) | (replace hbk := hbk.drew.trans (hbn.mono hbk.drew.size)))))
  go_wp2
  go_ret
  exact ⟨rfl, hbk⟩
end Go.Proofs.Ytohnjhnfhmfiiaa.diceDrawsW
