/- Layer 7: the contracts of a reader's blob and of its end. -/
import Derived.Test.YtgabpmoibmhigaaRej
import Derived.Test.YtgabpmoibmhigaaRlc
import Derived.Shelf.Strconv.Itoa0
namespace Go.Proofs.Ytgabpmoibmhigaa.Re
open Go.RowKit Go.Proofs.Ytgabpmoibmhigaa Go.Proofs.Ytgabpmoibmhigaa.Rp

theorem end_any (p : Value) (g : Nat) {B : Nat} (s : St) (w : World) (h : RP p g B s w) :
    Calls Try.prog 16 #[p] w fun e w' => e = .returned (.int .i64 (endS s).2) ∧ RP p g B (endS s) w' ∧ Aft g w.heap.size w w' := by
  by_cases hl : 0 < leftS s
  · have HE := Lib.hid (show endS s = failS s 10 by unfold endS; rw [if_pos hl])
    go_enter Try.func16, Try.ntmps16
    go_wp2_with (go_at_call 36; refine (left_any _ g s _ h).mono ?_; rintro e w9 ⟨rfl, rfl⟩)
    refine (fail_any p g s 10 _ h).mono ?_
    rintro e w1 ⟨rfl, hr, ha⟩
    go_wp2_with (go_at_call 30; refine (err_any _ g _ _ hr).mono ?_; rintro e w8 ⟨rfl, rfl⟩)
    go_ret
    exact ⟨by rw [HE.out]; rfl, by rw [HE.out]; exact hr, ha⟩
  · have HE := Lib.hid (show endS s = s by unfold endS; rw [if_neg hl])
    go_enter Try.func16, Try.ntmps16
    go_wp2_with (first | (go_at_call 36; refine (left_any _ g s _ h).mono ?_; rintro e w9 ⟨rfl, rfl⟩) | (go_at_call 30; refine (err_any _ g s _ h).mono ?_; rintro e w8 ⟨rfl, rfl⟩))
    go_ret
    exact ⟨by rw [HE.out]; rfl, by rw [HE.out]; exact h, Aft.refl _ _ _⟩

theorem max_wrap (x : Int) (h : x ≤ 9223372036854775807) : IntKind.u64.wrap (max x 0) = max x 0 := by rw [IntKind.wrap_u64]; omega

set_option maxHeartbeats 1000000 in
theorem rblob_any (p : Value) (g : Nat) {B : Nat} (s : St) (most : Int) (hm : most ≤ 9223372036854775807) (w : World) (h : RP p g B s w) :
    Calls Try.prog 29 #[p, .int .i64 most] w fun e w' => (∃ a n c, e = .returned (.slice a n c) ∧ w'.ownsRow w.heap.size 5 1 (.slice a n c) (blobS s most).1.length (vals (blobS s most).1)) ∧ RP p g B (blobS s most).2 w' ∧ Aft g w.heap.size w w' := by
  have hw := max_wrap most hm
  by_cases hover : max most 0 < ((numS s 4).1 : Int)
  · have HE := Lib.hid (show blobS s most = ([], failS (numS s 4).2 8) by unfold blobS; rw [if_pos hover])
    have HO := Lib.hid hover
    clear hover
    go_enter Try.func29, Try.ntmps29
    go_wp2_with (first | (go_at_call 56; refine (rnumber_lit p g s 4 4 rfl (by omega) _ h).mono ?_; rintro e w1 ⟨⟨y, rfl, hy, HY⟩, hr, hA⟩; have hov : max most 0 < (y : Int) := by rw [HY.out]; exact HO.out) | (go_at_call 35; refine (fail_any p g _ 8 _ hr).mono ?_; rintro e w2 ⟨rfl, hr2, ha2⟩))
    go_ret
    have hsz := hA.size
    exact ⟨⟨none, 0, 0, rfl, by rw [HE.out]; exact World.ownsRow_nil _ _ _ _⟩, by rw [HE.out]; exact hr2, hA.trans (ha2.mono hsz)⟩
  · have HE := Lib.hid (show blobS s most = takeS (numS s 4).2 (numS s 4).1 by unfold blobS; rw [if_neg hover])
    have HO := Lib.hid hover
    clear hover
    go_enter Try.func29, Try.ntmps29
    go_wp2_with (first | (go_at_call 56; refine (rnumber_lit p g s 4 4 rfl (by omega) _ h).mono ?_; rintro e w1 ⟨⟨y, rfl, hy, HY⟩, hr, hA⟩; have hov : ¬ max most 0 < (y : Int) := by rw [HY.out]; exact HO.out))
    refine (take_lit p g _ _ y rfl (by omega) _ hr).mono ?_
    rintro e w2 ⟨⟨a, m, c, rfl, HM, hmy, hbs⟩, hr2, ha2⟩
    go_wp2_with fail
    refine (clone_any _ _ _ hbs (by have := HM.out; omega)).mono ?_
    rintro e w3 ⟨⟨v', rfl, ho⟩, hb⟩
    obtain ⟨a', c', hv⟩ := own_form ho
    subst hv
    have hsz := hA.size
    have hsz2 := ha2.size
    have hA3 := (hA.trans (ha2.mono hsz)).trans (Aft.of (g := g) (base := w.heap.size) hb)
    have hr3 := hr2.new hb
    have HT := Lib.hid (show takeS (numS s 4).2 y = blobS s most by rw [HE.out, HY.out])
    go_wp2_with fail
    go_ret
    refine ⟨⟨a', _, c', rfl, ?_⟩, ?_, hA3⟩
    · rw [← HT.out]; exact own_mono ho (by omega)
    · rw [← HT.out]; exact hr3
end Go.Proofs.Ytgabpmoibmhigaa.Re
