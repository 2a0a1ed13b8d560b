/- The contracts of the sum, the least and the greatest of some points. -/
import Derived.Test.YtplcbdmiccpnnaaVfa
import Derived.Test.YtplcbdmiccpnnaaVfl
import Derived.Test.YtplcbdmiccpnnaaVfg
namespace Go.Proofs.Ytplcbdmiccpnnaa.Ve
open Go.RowKit Go.Proofs.Ytplcbdmiccpnnaa Go.Proofs.Ytplcbdmiccpnnaa.Wa

theorem least3_any (ax ay az : Int) (v : Value) (n : Nat) (lx ly lz : Nat → Int) (hn : n ≤ 4611686018427387904) (w : World) (hp : PtsV w v n lx ly lz) :
    Calls Try.prog 108 #[V3 ax ay az, v] w fun e w' => e = .returned (V3 (foldN min ax lx n) (foldN min ay ly n) (foldN min az lz n)) ∧ Below w.heap.size w w' := by
  have HP := Lib.hid hp
  clear hp
  go_enter Try.func108, Try.ntmps108
  go_wp2_with fail
  refine (fold_least_v ax ay az v n lx ly lz hn _ (HP.out.on (below_n2 _ _ _))).mono ?_
  rintro e w1 ⟨rfl, hb⟩
  obtain ⟨hc, hf⟩ := bcell hb
  have hz := hb.size
  simp at hz
  go_wp2
  exact bodyPost_ret (v := V3 (foldN min ax lx n) (foldN min ay ly n) (foldN min az lz n)) (by simp [results, Try.results108, go_sem, hc]) rfl ⟨rfl, below_put3 (below_c2 hb) (by omega) _ _ _⟩

theorem greatest3_any (ax ay az : Int) (v : Value) (n : Nat) (lx ly lz : Nat → Int) (hn : n ≤ 4611686018427387904) (w : World) (hp : PtsV w v n lx ly lz) :
    Calls Try.prog 109 #[V3 ax ay az, v] w fun e w' => e = .returned (V3 (foldN max ax lx n) (foldN max ay ly n) (foldN max az lz n)) ∧ Below w.heap.size w w' := by
  have HP := Lib.hid hp
  clear hp
  go_enter Try.func109, Try.ntmps109
  go_wp2_with fail
  refine (fold_greatest_v ax ay az v n lx ly lz hn _ (HP.out.on (below_n2 _ _ _))).mono ?_
  rintro e w1 ⟨rfl, hb⟩
  obtain ⟨hc, hf⟩ := bcell hb
  have hz := hb.size
  simp at hz
  go_wp2
  exact bodyPost_ret (v := V3 (foldN max ax lx n) (foldN max ay ly n) (foldN max az lz n)) (by simp [results, Try.results109, go_sem, hc]) rfl ⟨rfl, below_put3 (below_c2 hb) (by omega) _ _ _⟩

end Go.Proofs.Ytplcbdmiccpnnaa.Ve
