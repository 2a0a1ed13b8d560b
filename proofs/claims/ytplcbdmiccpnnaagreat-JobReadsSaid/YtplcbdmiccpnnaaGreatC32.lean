/- Jobs: the document's question how many there are. -/
import Derived.Test.YtplcbdmiccpnnaaGreatC12
import Derived.Test.YtplcbdmiccpnnaaGreatC26
namespace Go.Proofs.YtplcbdmiccpnnaaGreat.Jd
open Go.RowKit Go.Proofs.YtplcbdmiccpnnaaGreat Go.Proofs.YtplcbdmiccpnnaaGreat.Rp Go.Proofs.YtplcbdmiccpnnaaGreat.Re Go.Proofs.YtplcbdmiccpnnaaGreat.Au
open Go.Proofs.YtplcbdmiccpnnaaGreat.Jb (manyS many_in many_more)
set_option linter.unusedVariables false
set_option linter.unusedSimpArgs false

theorem mmany_in (g N : Nat) (a : Option Addr) (n c : Nat) (lb : List UInt8) (s : St) (most e : Int) (z : Nat) (hz : (numS s 1).1 = z) (hm : ¬ most < (z : Int)) (w : World) (h : MAt g N a n c lb s w) :
    Calls Tryz.prog 16 #[.pointer (some ⟨g, 0, none⟩), .int .i64 most, .int .i64 e] w fun e' w' => e' = .returned (.int .i64 (z : Int)) ∧ MAt g N a n c lb (numS s 1).2 w' ∧ Aft g w.heap.size w w' := by
  have hl := numS_lt s 1
  rw [hz] at hl
  have HM := Lib.hid hm
  clear hm
  go_enter Tryz.func16, Tryz.ntmps16
  go_wp2_with fail
  refine (mnum_any g N a n c lb s 1 (by omega) _ h).mono ?_
  rintro e' w1 ⟨rfl, h1, ha1⟩
  rw [hz]
  have H1 := Lib.hid h1
  have HA := Lib.hid ha1
  clear h1 ha1 hz
  have d := decide_eq_false (show ¬ most < (z : Int) by have := HM.out; omega)
  go_wp2
  go_ret
  exact ⟨rfl, H1.out, HA.out⟩

theorem mmany_more (g N : Nat) (a : Option Addr) (n c : Nat) (lb : List UInt8) (s : St) (most e : Int) (z : Nat) (hz : (numS s 1).1 = z) (hm : most < (z : Int)) (w : World) (h : MAt g N a n c lb s w) :
    Calls Tryz.prog 16 #[.pointer (some ⟨g, 0, none⟩), .int .i64 most, .int .i64 e] w fun e' w' => e' = .returned (.int .i64 0) ∧ MAt g N a n c lb (failS (numS s 1).2 e) w' ∧ Aft g w.heap.size w w' := by
  have hl := numS_lt s 1
  rw [hz] at hl
  have HM := Lib.hid hm
  clear hm
  go_enter Tryz.func16, Tryz.ntmps16
  go_wp2_with fail
  refine (mnum_any g N a n c lb s 1 (by omega) _ h).mono ?_
  rintro e' w1 ⟨rfl, h1, ha1⟩
  rw [hz]
  obtain ⟨t, ht⟩ : ∃ t, (numS s 1).2 = t := ⟨_, rfl⟩
  rw [ht] at h1
  have HT := Lib.hid ht
  have H1 := Lib.hid h1
  have HA := Lib.hid ha1
  obtain ⟨he, hf, -, -⟩ := h1.err
  clear h1 ha1 hz ht
  have d := decide_eq_true (show most < (z : Int) by have := HM.out; omega)
  obtain ⟨l, er⟩ := t
  by_cases h0 : er = 0
  · subst h0
    have he : w1.cell? ⟨g, 2, none⟩ = some (.int .i64 0) := he
    go_wp2
    go_ret
    exact ⟨rfl, by rw [HT.out]; exact H1.out.setErr e, HA.out.setCell 2 _⟩
  · have he : w1.cell? ⟨g, 2, none⟩ = some (.int .i64 er) := he
    have d1 : (er == 0) = false := by simpa using h0
    have d2 := decide_eq_false h0
    go_wp2
    go_ret
    exact ⟨rfl, by rw [HT.out]; unfold failS; rw [if_neg h0]; exact H1.out, HA.out⟩

theorem mmany (g N : Nat) (a : Option Addr) (n c : Nat) (lb : List UInt8) (s : St) (most e : Int) (w : World) (h : MAt g N a n c lb s w) :
    Calls Tryz.prog 16 #[.pointer (some ⟨g, 0, none⟩), .int .i64 most, .int .i64 e] w fun e' w' => e' = .returned (.int .i64 ((manyS s most e).1 : Int)) ∧ MAt g N a n c lb (manyS s most e).2 w' ∧ Aft g w.heap.size w w' := by
  by_cases hm : most < ((numS s 1).1 : Int)
  · rw [many_more hm]; exact mmany_more g N a n c lb s most e _ rfl hm w h
  · rw [many_in hm]; exact mmany_in g N a n c lb s most e _ rfl hm w h

end Go.Proofs.YtplcbdmiccpnnaaGreat.Jd
