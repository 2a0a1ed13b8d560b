/- Layer 7: the contracts of the library's Clone, of a writer's Bytes; the document's example. -/
import Derived.Test.YtgkfoiekminfmaaRec
namespace Go.Proofs.Ytgkfoiekminfmaa.Re
open Go.RowKit Go.Proofs.Ytgkfoiekminfmaa Go.Proofs.Ytgkfoiekminfmaa.Rp

theorem clone_nil (w : World) : Calls Try.prog 54 #[.slice none 0 0] w fun e w' => e = .returned (.slice none 0 0) ∧ w' = w := by
  have hnn := fun wx => Lib.run_eql_slice_nil (P := Try.prog) wx 45 5 none 0 0 0 0 Try.underlying45
  go_enter Try.func54, Try.ntmps54
  go_wp2
  go_ret
  exact ⟨rfl, rfl⟩

set_option maxHeartbeats 1000000 in
theorem clone_some (l : List UInt8) (ad : Addr) (cap : Nat) (w : World) (hb : ∀ j u, (vals l)[j]? = some u → w.cell? (ad.add j) = some u) (hsz : l.length ≤ 140737488355328) :
    Calls Try.prog 54 #[.slice (some ad) l.length cap] w fun e w' => (∃ b cap', e = .returned (.slice (some ⟨b, 0, none⟩) l.length cap') ∧ w'.ownsRow w.heap.size 5 1 (.slice (some ⟨b, 0, none⟩) l.length cap') l.length (vals l)) ∧ Below w.heap.size w w' := by
  obtain ⟨i0, hi, hz0, hz1, hz2⟩ := info_parts infoByte
  have hnn := fun wx => Lib.run_eql_slice_nil (P := Try.prog) wx 45 5 (some ad) l.length cap 0 0 Try.underlying45
  have hb2 := fun j u hu => old1 (.cells #[] 5) (hb j u hu)
  have HB := Lib.hid hb2
  clear hb hb2
  go_enter Try.func54, Try.ntmps54
  go_wp2_with (first | (at_builtin; refine wpList_append_own _ rfl _ _ 45 rfl w.heap.size 5 i0 (.int .u8 0) 1 1 Try.underlying45 hi hz0 hz1 hz2 rfl (by decide) _ _ _ rfl (World.ownsRow_lit w #[] 0 (Nat.le_refl _) (by unfold maxLen; omega) rfl) ad l.length cap (vals l) rfl ?c1 HB.out (vals_one l) ?c3 ?c4 ?c5 ?_))
  case c1 => rw [vals_length]; omega
  case c3 => unfold maxLen; omega
  case c4 => omega
  case c5 => simp
  intro v' w1 hown hgrow hnil
  have hbel : Below w.heap.size w w1 := (below_n1 w (.cells #[] 5)).grown hgrow (by simp) (fun q hq => by simp [Value.ownBlock] at hq; omega)
  have hform : ∃ b cap', v' = .slice (some ⟨b, 0, none⟩) l.length cap' := by
    rcases hown.2 with ⟨h, -⟩ | ⟨q, cap', cur, h, -⟩
    · exact (hnil h).elim
    · exact ⟨q, cap', by rw [h]⟩
  obtain ⟨b, cap', hv⟩ := hform
  rw [hv] at hown ⊢
  have HO := Lib.hid (show w1.ownsRow w.heap.size 5 1 (.slice (some ⟨b, 0, none⟩) l.length cap') l.length (vals l) by simpa using hown)
  clear hown hgrow hnil hv hi hz0 hz1 hz2
  go_wp2
  go_ret
  exact ⟨⟨b, cap', rfl, HO.out⟩, hbel⟩

theorem clone_any (l : List UInt8) (v : Value) (w : World) (hb : Bs w v l) (hsz : l.length ≤ 140737488355328) :
    Calls Try.prog 54 #[v] w fun e w' => (∃ v', e = .returned v' ∧ w'.ownsRow w.heap.size 5 1 v' l.length (vals l)) ∧ Below w.heap.size w w' := by
  rcases hb with ⟨rfl, rfl⟩ | ⟨ad, cap, rfl, hb⟩
  · exact (clone_nil w).mono fun e w' ⟨he, hw⟩ => ⟨⟨_, he, World.ownsRow_nil _ _ _ _⟩, by rw [hw]; exact Below.refl _ _⟩
  · exact (clone_some l ad cap w hb hsz).mono fun e w' ⟨⟨b, c, he, ho⟩, hw⟩ => ⟨⟨_, he, ho⟩, hw⟩

theorem bytes_any (g : Nat) (S : Nat → Prop) (l : List UInt8) (w : World) (hW : WAt g S l w) (hsz : l.length ≤ 140737488355328) :
    Calls Try.prog 36 #[.pointer (some ⟨g, 0, none⟩)] w fun e w' => (∃ a n c, e = .returned (.slice a n c) ∧ w'.ownsRow w.heap.size 5 1 (.slice a n c) l.length (vals l)) ∧ Below w.heap.size w w' := by
  obtain ⟨h1, h2, h0, h3, v, h4, h5, h6⟩ := hW
  obtain ⟨a, c, rfl⟩ := own_form h5
  have hbs := own_bs h5
  go_enter Try.func36, Try.ntmps36
  go_wp2_with fail
  refine (clone_any l _ _ hbs hsz).mono ?_
  rintro e w1 ⟨⟨v', rfl, ho⟩, hb⟩
  obtain ⟨a', c', hv⟩ := own_form ho
  subst hv
  go_wp2_with fail
  go_ret
  exact ⟨⟨a', l.length, c', rfl, ho⟩, hb⟩

/-! ### the document's example -/
def example7 : List UInt8 := [2, 1, 255, 255, 255, 255, 255]

theorem example7_is : ([] : List UInt8) ++ numsOf 2 [258] ++ numsOf 5 [-1] = example7 := by decide +kernel

end Go.Proofs.Ytgkfoiekminfmaa.Re
