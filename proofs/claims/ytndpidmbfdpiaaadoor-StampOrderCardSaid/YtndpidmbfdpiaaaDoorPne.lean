/- Layer 25: the program's First; which rule of the names a plan breaks first. -/
import Derived.Test.YtndpidmbfdpiaaaDoorPni
import Derived.Test.YtndpidmbfdpiaaaDoorLs
namespace Go.Proofs.YtndpidmbfdpiaaaDoor.Pn
open Go Go.RowKit Go.Shelf Go.Proofs Go.Proofs.YtndpidmbfdpiaaaDoor Go.Proofs.YtndpidmbfdpiaaaDoor.Au Go.Proofs.YtndpidmbfdpiaaaDoor.Re
set_option linter.unusedVariables false
set_option linter.unusedSimpArgs false

def firstV (o : Option Nat) : Value := match o with | some n => .tuple #[.int .i64 n, .bool true] | none => .tuple #[.int .i64 0, .bool false]

set_option maxHeartbeats 2000000 in
set_option maxRecDepth 100000 in
theorem first_any (a : Option Addr) (c d n : Nat) (L : List (List Int)) (out : List Int) (T : TypeId) (w : World) (hn : n = L.length) (hP : PAt w a n L) (ho : Ok L out) (h : w.rowIs d T n (fun i => .bool (has out (i : Int)))) :
    Calls Tryd.prog 35 #[.slice a n c, .slice (some ⟨d, 0, none⟩) n n] w fun e w' => e = .returned (firstV (first L out)) ∧ Below w.heap.size w w' := by
  have HP := Lib.hid hP
  have HR := Lib.hid h
  have HN := Lib.hid hn
  have hnb := hP.2.1
  clear hP h hn
  go_enter Tryd.func35, Tryd.ntmps35
  go_wp2_with fail
  go_loopw [9] (fun v wr => ∃ i : Nat, i ≤ n ∧ v = .int .i64 i ∧ Hid (Below w.heap.size w wr) ∧ Hid (∀ j, j < i → may L out j = false)) (fun v _ => n - (intOf v).toNat)
  case atStart => exact ⟨0, by omega, rfl, Lib.hid (Below.refl _ _), Lib.hid (fun j hj => absurd hj (Nat.not_lt_zero _))⟩
  case round =>
    obtain ⟨i, hin, rfl, HB, HM⟩ := hrel
    by_cases hlt : i < n
    · have hlt' : (i : Int) < n := by omega
      have hcall : Calls Tryd.prog 42 #[.slice a n c, .int .i64 i, .slice (some ⟨d, 0, none⟩) n n] wr fun e w' => e = .returned (.bool (may L out i)) ∧ Below wr.heap.size wr w' := by
        have hn := HN.out
        subst hn
        exact may_any a c d L out T i wr (HP.out.on HB.out) hlt ho (HR.out.of_block (HB.out.block d HR.out.lt))
      cases hm : may L out i with
      | true =>
        have HF := Lib.hid (first_at (by rw [← HN.out]; exact hlt) hm HM.out)
        rw [hm] at hcall
        go_wp2_with (go_at_call 42; refine hcall.mono ?_; rintro e w1 ⟨rfl, hb1⟩)
        go_ret2
        rw [HF.out]
        exact ⟨rfl, HB.out.trans (hb1.mono HB.out.size)⟩
      | false =>
        have HM2 := Lib.hid (show ∀ j, j < i + 1 → may L out j = false from fun j hj => by
          by_cases e : j = i
          · subst e; exact hm
          · exact HM.out j (by omega))
        rw [hm] at hcall
        go_wp2_with (go_at_call 42; refine hcall.mono ?_; rintro e w1 ⟨rfl, hb1⟩)
        go_roundw
        case rel => exact ⟨i + 1, by omega, by go_num, Lib.hid (HB.out.trans (hb1.mono HB.out.size)), HM2⟩
        case measure => simp [intOf]; omega
    · have hge : ¬ (i : Int) < n := by omega
      have hF := Lib.hid (first_no (L := L) (out := out) (fun j hj => HM.out j (by have := HN.out; omega)))
      go_wp2_with fail
      go_ret2
      rw [hF.out]
      exact ⟨rfl, HB.out⟩

end Go.Proofs.YtndpidmbfdpiaaaDoor.Pn
