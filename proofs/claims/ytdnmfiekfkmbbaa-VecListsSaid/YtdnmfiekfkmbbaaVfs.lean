/- The contracts of the sum, the least and the greatest of some points. -/
import Derived.Test.YtdnmfiekfkmbbaaVfa
import Derived.Test.YtdnmfiekfkmbbaaVfl
import Derived.Test.YtdnmfiekfkmbbaaVfg
namespace Go.Proofs.Ytdnmfiekfkmbbaa.Ve
open Go.RowKit Go.Proofs.Ytdnmfiekfkmbbaa Go.Proofs.Ytdnmfiekfkmbbaa.Wa

theorem sum3_any (v : Value) (n : Nat) (lx ly lz : Nat → Int) (hn : n ≤ 4611686018427387904) (w : World) (hp : PtsV w v n lx ly lz) :
    Calls Try.prog 22 #[v] w fun e w' => e = .returned (V3 (foldN Pl.add 0 lx n) (foldN Pl.add 0 ly n) (foldN Pl.add 0 lz n)) ∧ Below w.heap.size w w' := by
  have HP := Lib.hid hp
  clear hp
  go_enter Try.func22, Try.ntmps22
  go_wp2_with fail
  refine (fold_add_v 0 0 0 v n lx ly lz hn _ (HP.out.on (below_n1 _ _))).mono ?_
  rintro e w1 ⟨rfl, hb⟩
  obtain ⟨hc, hf⟩ := bcell hb
  have hz := hb.size
  simp at hz
  go_wp2
  exact bodyPost_ret (v := V3 (foldN Pl.add 0 lx n) (foldN Pl.add 0 ly n) (foldN Pl.add 0 lz n)) (by simp [results, Try.results22, go_sem, hc]) rfl ⟨rfl, below_put3 (below_c1 hb) (by omega) _ _ _⟩

theorem least3_any (ax ay az : Int) (v : Value) (n : Nat) (lx ly lz : Nat → Int) (hn : n ≤ 4611686018427387904) (w : World) (hp : PtsV w v n lx ly lz) :
    Calls Try.prog 23 #[V3 ax ay az, v] w fun e w' => e = .returned (V3 (foldN min ax lx n) (foldN min ay ly n) (foldN min az lz n)) ∧ Below w.heap.size w w' := by
  have HP := Lib.hid hp
  clear hp
  go_enter Try.func23, Try.ntmps23
  go_wp2_with fail
  refine (fold_least_v ax ay az v n lx ly lz hn _ (HP.out.on (below_n2 _ _ _))).mono ?_
  rintro e w1 ⟨rfl, hb⟩
  obtain ⟨hc, hf⟩ := bcell hb
  have hz := hb.size
  simp at hz
  go_wp2
  exact bodyPost_ret (v := V3 (foldN min ax lx n) (foldN min ay ly n) (foldN min az lz n)) (by simp [results, Try.results23, go_sem, hc]) rfl ⟨rfl, below_put3 (below_c2 hb) (by omega) _ _ _⟩

theorem greatest3_any (ax ay az : Int) (v : Value) (n : Nat) (lx ly lz : Nat → Int) (hn : n ≤ 4611686018427387904) (w : World) (hp : PtsV w v n lx ly lz) :
    Calls Try.prog 24 #[V3 ax ay az, v] w fun e w' => e = .returned (V3 (foldN max ax lx n) (foldN max ay ly n) (foldN max az lz n)) ∧ Below w.heap.size w w' := by
  have HP := Lib.hid hp
  clear hp
  go_enter Try.func24, Try.ntmps24
  go_wp2_with fail
  refine (fold_greatest_v ax ay az v n lx ly lz hn _ (HP.out.on (below_n2 _ _ _))).mono ?_
  rintro e w1 ⟨rfl, hb⟩
  obtain ⟨hc, hf⟩ := bcell hb
  have hz := hb.size
  simp at hz
  go_wp2
  exact bodyPost_ret (v := V3 (foldN max ax lx n) (foldN max ay ly n) (foldN max az lz n)) (by simp [results, Try.results24, go_sem, hc]) rfl ⟨rfl, below_put3 (below_c2 hb) (by omega) _ _ _⟩

end Go.Proofs.Ytdnmfiekfkmbbaa.Ve
