/- Layer 23 (drum): the program's Loose: the numbers of what is loose, rising, in a new row. -/
import Derived.Shelf.AbstractIn
import Derived.Shelf.SlIterI.Sorted
import Derived.Test.YtjejghfeeonghaaShelfZ
import Derived.Test.YtjejghfeeonghaaDrb
namespace Go.Proofs.Ytjejghfeeonghaa.Dr
open Go Go.RowKit Go.Maps Go.Sort Go.Shelf Go.Proofs Go.Proofs.Ytjejghfeeonghaa
set_option linter.unusedVariables false
set_option linter.unusedSimpArgs false

theorem sortsA (m : Nat) : AnyZI.SortsIn Try.prog ShZ.sortedA_ren Fence.wide m :=
  ⟨fun blk off cap ss W hH hblk hsz => callsIn_wide.2 (ShZ.slices_Sort_int blk off cap ss W hH hblk hsz),
   fun p cap W => callsIn_wide.2 (ShZ.slices_Sort_int_none p cap W)⟩

theorem size_dm (M : List (Int × Bk)) : Maps.size (dm M) = M.length := by unfold dm; rw [Maps.size_eq]; simp

theorem keys_dm (M : List (Int × Bk)) : intKeys (dm M) = M.map (·.1) := by
  unfold dm intKeys
  simp only [List.map_map]
  refine List.map_congr_left fun p _ => rfl

/-- the keys rise already -/
theorem keys_sort {M : List (Int × Bk)} (h : M.Pairwise fun p q => p.1 < q.1) {ss : List Int} (hp : ss.Perm (intKeys (dm M))) : ss.mergeSort (fun x y => decide (x ≤ y)) = M.map (·.1) := by
  rw [keys_dm] at hp
  have h1 : (M.map (·.1)).Pairwise fun x y => x ≤ y := by
    rw [List.pairwise_map]
    exact h.imp fun h => Int.le_of_lt h
  have h2 : (ss.mergeSort fun x y => decide (x ≤ y)).Pairwise fun x y => x ≤ y := by
    have := List.pairwise_mergeSort (le := fun x y : Int => decide (x ≤ y)) (fun a b c => by simp; omega) (fun a b => by simp; omega) ss
    exact this.imp fun h => by simpa using h
  exact ((List.mergeSort_perm ss _).trans hp).eq_of_pairwise (fun a b _ _ h1 h2 => by omega) h2 h1

set_option maxHeartbeats 1000000 in
theorem loose_any (g b m : Nat) (s : Dst) (w : World) (hd : DAt w g b m s) : Calls Try.prog 18 #[.pointer (some ⟨g, 0, none⟩)] w fun e w' => ∃ v, e = .returned v ∧ w'.ownsRow w.heap.size 3 1 v s.M.length (s.M.map fun p => .int .i64 p.1) ∧ Below w.heap.size w w' := by
  have hc2 := hd.dev
  have hown := hd.loose
  have hmax : Maps.size (dm s.M) ≤ maxLen := by rw [size_dm]; have := hd.mlen; have := hd.n0; unfold maxLen; omega
  have hbytes : Maps.size (dm s.M) * 8 ≤ 140737488355328 := by rw [size_dm]; have := hd.mlen; have := hd.n0; omega
  have hup := hd.up
  refine (callsIn_wide (n := 6)).1 ?_
  have hbl := hown.lt
  have hseq : SeqGives Fence.wide 2 Try.prog 36 #[.pointer (some ⟨w.heap.size, 0, none⟩)] encZ (fun ss => ss.Perm (intKeys (dm s.M))) (Maps.size (dm s.M)) (w.alloc (.cells #[.map (some m)] 55)) :=
    AnyZI.keys_gives (ρ := ShZ.keysA_ren) { ShZ.keysA with } Fence.wide _ trivial rfl (by omega) w.heap.size m 9000 (dm s.M) _ (by simp) (by simp) (by
      obtain ⟨es, clock, hb, Ft, hs, hD⟩ := hown
      exact ⟨es, clock, (Below.heap_alloc _ _ m hbl).trans hb, Ft, hs, hD⟩)
  have cK : ∀ mb W, CallsIn Fence.wide 5 Try.prog 30 #[.map mb] W fun e w' => e = .returned (.func (.func 36) #[] #[.pointer (some ⟨W.heap.size, 0, none⟩)]) ∧ w' = W.alloc (.cells #[.map mb] 55) := fun mb W => AnyZI.keys_in ShZ.keysA Fence.wide 5 trivial rfl mb W
  have cS := AnyZI.sorted_in ShZ.sortedA Fence.wide 5 trivial trivial trivial trivial rfl (by omega) (sortsA _) (enters_of Try.func35 (by kernel_rfl) rfl) 36 #[.pointer (some ⟨w.heap.size, 0, none⟩)] trivial (enters_of Try.func36 (by kernel_rfl) rfl) _ _ hmax hbytes _ hseq
  change CallsIn _ _ Try.prog 29 _ _ _ at cS
  have hfK : Fence.wide.fn 30 := trivial
  have hfS : Fence.wide.fn 29 := trivial
  have q2 := cell_of_row _ _ 5 _ _ _ hc2
  simp at q2
  clear hd hc2
  refine callsIn_of_wp Try.func18 rfl trivial ?_ rfl
  simp only [Try.ntmps18, List.size_toArray, List.length_cons, List.length_nil, Nat.reduceAdd, Nat.reduceSub, Array.replicate_succ, Array.replicate_zero, List.push_toArray, List.append_toArray, List.nil_append, List.cons_append]
  gi_wp2_with (first
    | (gi_at_call 30; refine (cK _ _).mono ?_; rintro e w' ⟨rfl, rfl⟩)
    | (gi_at_call 29; refine cS.mono ?_; rintro e w' ⟨v, ss, rfl, hS, hrow, hnil, hb⟩))
  go_ret
  have hlen : ss.length = s.M.length := by rw [hS.length_eq, keys_dm, List.length_map]
  have hrow2 := ownsRow_base_a hrow (show w.heap.size ≤ _ by simp)
  rw [keys_sort hup hS, hlen, List.map_map] at hrow2
  exact ⟨v, rfl, hrow2, ((Below.refl _ w).alloc (Nat.le_refl _) _).trans (hb.mono (by simp))⟩

end Go.Proofs.Ytjejghfeeonghaa.Dr
