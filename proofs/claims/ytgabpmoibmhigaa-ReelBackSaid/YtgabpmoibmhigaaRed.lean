/- Layer 7: the contracts of the library's Clone, of a writer's Bytes; the document's example. -/
import Derived.Test.YtgabpmoibmhigaaRec
namespace Go.Proofs.Ytgabpmoibmhigaa.Re
open Go.RowKit Go.Proofs.Ytgabpmoibmhigaa Go.Proofs.Ytgabpmoibmhigaa.Rp

theorem clone_nil (w : World) : Calls Try.prog 47 #[.slice none 0 0] w fun e w' => e = .returned (.slice none 0 0) ∧ w' = w := by
  have hnn := fun wx => Lib.run_eql_slice_nil (P := Try.prog) wx 28 5 none 0 0 0 0 Try.underlying28
  go_enter Try.func47, Try.ntmps47
  go_wp2
  go_ret
  exact ⟨rfl, rfl⟩

set_option maxHeartbeats 1000000 in
theorem clone_some (l : List UInt8) (ad : Addr) (cap : Nat) (w : World) (hb : ∀ j u, (vals l)[j]? = some u → w.cell? (ad.add j) = some u) (hsz : l.length ≤ 140737488355328) :
    Calls Try.prog 47 #[.slice (some ad) l.length cap] w fun e w' => (∃ b cap', e = .returned (.slice (some ⟨b, 0, none⟩) l.length cap') ∧ w'.ownsRow w.heap.size 5 1 (.slice (some ⟨b, 0, none⟩) l.length cap') l.length (vals l)) ∧ Below w.heap.size w w' := by
  obtain ⟨i0, hi, hz0, hz1, hz2⟩ := info_parts infoByte
  have hnn := fun wx => Lib.run_eql_slice_nil (P := Try.prog) wx 28 5 (some ad) l.length cap 0 0 Try.underlying28
  have hb2 := fun j u hu => old1 (.cells #[] 5) (hb j u hu)
  have HB := Lib.hid hb2
  clear hb hb2
  go_enter Try.func47, Try.ntmps47
  go_wp2_with (first | (at_builtin; refine wpList_append_own _ rfl _ _ 28 rfl w.heap.size 5 i0 (.int .u8 0) 1 1 Try.underlying28 hi hz0 hz1 hz2 rfl (by decide) _ _ _ rfl (World.ownsRow_lit w #[] 0 (Nat.le_refl _) (by unfold maxLen; omega) rfl) ad l.length cap (vals l) rfl ?c1 HB.out (vals_one l) ?c3 ?c4 ?c5 ?_))
  case c1 => rw [vals_length]; omega
  case c3 => unfold maxLen; omega
  case c4 => omega
  case c5 => simp
  intro v' w1 hown hgrow hnil
  have hbel : Below w.heap.size w w1 := (below_n1 w (.cells #[] 5)).grown hgrow (by simp) (fun q hq => by simp [Value.ownBlock] at hq; omega)
  have hform : ∃ b cap', v' = .slice (some ⟨b, 0, none⟩) l.length cap' := by
    rcases hown.2 with ⟨h, -⟩ | ⟨q, cap', cur, h, -⟩
    · exact (hnil h).elim
    · exact ⟨q, cap', by rw [h]⟩
  obtain ⟨b, cap', hv⟩ := hform
  rw [hv] at hown ⊢
  have HO := Lib.hid (show w1.ownsRow w.heap.size 5 1 (.slice (some ⟨b, 0, none⟩) l.length cap') l.length (vals l) by simpa using hown)
  clear hown hgrow hnil hv hi hz0 hz1 hz2
  go_wp2
  go_ret
  exact ⟨⟨b, cap', rfl, HO.out⟩, hbel⟩

theorem clone_any (l : List UInt8) (v : Value) (w : World) (hb : Bs w v l) (hsz : l.length ≤ 140737488355328) :
    Calls Try.prog 47 #[v] w fun e w' => (∃ v', e = .returned v' ∧ w'.ownsRow w.heap.size 5 1 v' l.length (vals l)) ∧ Below w.heap.size w w' := by
  rcases hb with ⟨rfl, rfl⟩ | ⟨ad, cap, rfl, hb⟩
  · exact (clone_nil w).mono fun e w' ⟨he, hw⟩ => ⟨⟨_, he, World.ownsRow_nil _ _ _ _⟩, by rw [hw]; exact Below.refl _ _⟩
  · exact (clone_some l ad cap w hb hsz).mono fun e w' ⟨⟨b, c, he, ho⟩, hw⟩ => ⟨⟨_, he, ho⟩, hw⟩

theorem bytes_any (g : Nat) (S : Nat → Prop) (l : List UInt8) (w : World) (hW : WAt g S l w) (hsz : l.length ≤ 140737488355328) :
    Calls Try.prog 12 #[.pointer (some ⟨g, 0, none⟩)] w fun e w' => (∃ a n c, e = .returned (.slice a n c) ∧ w'.ownsRow w.heap.size 5 1 (.slice a n c) l.length (vals l)) ∧ Below w.heap.size w w' := by
  obtain ⟨h1, h2, h0, h3, v, h4, h5, h6⟩ := hW
  obtain ⟨a, c, rfl⟩ := own_form h5
  have hbs := own_bs h5
  go_enter Try.func12, Try.ntmps12
  go_wp2_with fail
  refine (clone_any l _ _ hbs hsz).mono ?_
  rintro e w1 ⟨⟨v', rfl, ho⟩, hb⟩
  obtain ⟨a', c', hv⟩ := own_form ho
  subst hv
  go_wp2_with fail
  go_ret
  exact ⟨⟨a', l.length, c', rfl, ho⟩, hb⟩

/-! ### the document's example -/
def example7 : List UInt8 := [2, 1, 255, 255, 255, 255, 255]
theorem example7_is : ([] : List UInt8) ++ numsOf 2 [258] ++ numsOf 5 [-1] = example7 := by decide +kernel

set_option maxHeartbeats 1000000 in
theorem awake_any (w : World) : Calls Try.prog 8 #[] w fun e w' => e = .returned (.bool true) ∧ Below w.heap.size w w' := by
  go_enter Try.func8, Try.ntmps8
  go_wp2_with fail
  refine (new_any _).mono ?_
  rintro e w1 ⟨rfl, hw1⟩
  have hz : w.heap.size + 1 ≤ w1.heap.size := by rw [hw1]; simp
  have hA0 : Below w.heap.size w w1 := by rw [hw1]; exact below_n1 _ _
  have hW : WAt w.heap.size (fun k => k < w.heap.size) [] w1 := by rw [hw1]; exact new_at w _ (fun _ hk => hk)
  clear hw1
  go_wp2_with fail
  refine (half_any w.heap.size _ [] _ 1 [258] _ (hW.push _) (Ints.one _ _) (by simp) (by simp)).mono ?_
  rintro e w2 ⟨rfl, hW2, ha2⟩
  have hA2 := ((Aw.refl (fun k => k < w.heap.size) w1).alloc _).trans (ha2.weak fun k hk => .inl hk)
  have hz2 := hA2.size
  go_wp2_with fail
  refine (fix_list w.heap.size _ _ _ 1 [-1] _ ((hW2.weak fun k hk => .inl hk : WAt w.heap.size (fun k => k < w.heap.size) _ _).push _) (Ints.one _ _) (by simp) (by simp [numsOf_length])).mono ?_
  rintro e w3 ⟨rfl, hW3, ha3⟩
  have hA3 := (hA2.alloc _).trans (ha3.weak fun k hk => .inl hk)
  rw [example7_is] at hW3
  go_wp2_with fail
  refine (bytes_any _ _ _ _ hW3 (by simp [example7])).mono ?_
  rintro e w4 ⟨⟨a, n, c, rfl, ho⟩, hb4⟩
  have hcv := conv_bs (own_bs ho)
  have hz3 := hA3.size
  have hfin : Below w.heap.size w w4 := (hA0.trans (hA3.below (fun _ hk => hk) (by omega))).trans (hb4.mono (by omega))
  have he : (example7 == [2, 1, 255, 255, 255, 255, 255]) = true := by decide +kernel
  clear ho
  go_wp2_with fail
  go_ret
  exact ⟨rfl, hfin⟩
end Go.Proofs.Ytgabpmoibmhigaa.Re
