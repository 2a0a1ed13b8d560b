/- PlanOrders (zoetropelaw25), the walk: whether any plan may be, and its order, are the document's. -/
import Derived.Test.YtndpidmbfdpiaaaPnl
import Derived.Test.YtndpidmbfdpiaaaPnn
namespace Go.Proofs.Ytndpidmbfdpiaaa.planOrdersW
open Go Go.RowKit Go.Proofs.Ytndpidmbfdpiaaa Go.Proofs.Ytndpidmbfdpiaaa.Au Go.Proofs.Ytndpidmbfdpiaaa.Re Go.Proofs.Ytndpidmbfdpiaaa.Pn
set_option linter.unusedVariables false
set_option linter.unusedSimpArgs false

theorem chk_big {L : List (List Int)} (h : 256 < L.length) : chk L = 8 := by
  have h1 : named L = 8 := by unfold named; rw [if_pos h]
  unfold chk; rw [h1]; rfl

set_option maxHeartbeats 4000000 in
set_option maxRecDepth 100000 in
theorem walk (a : Option Addr) (n c : Nat) (L : List (List Int)) (w : World) (hP : PAt w a n L) :
    Calls Try.prog 3 #[.slice a n c] w fun e w' => e = .returned (.bool true) ∧ Below w.heap.size w w' := by
  have hn := hP.1
  have HP := Lib.hid hP
  have HN := Lib.hid hn
  have hlight := light_any a c n L w hn hP
  have hord := order_any a c n L w hn hP
  have hrc := fun y hb => rcheck_any a c n L y hn (HP.out.on hb)
  have hch := fun y hb => check_any a c n L y hn (HP.out.on hb)
  have hro := fun y hb => rorder_any a c n L y hn (HP.out.on hb)
  clear hn hP
  cases hl : lightB L with
  | false =>
    rw [hl] at hlight
    by_cases hbig : n ≤ 256
    · have d1 : decide ((n : Int) ≤ 256) = true := by simp; omega
      go_enter Try.func3, Try.ntmps3
      go_wp2_with (first
        | (go_at_call 6; refine hlight.mono ?_; rintro e ww ⟨rfl, rfl⟩)
        | (go_at_call 7; refine (awake_any _).mono ?_; rintro e y1 ⟨rfl, hb1⟩))
      go_ret
      exact ⟨rfl, hb1⟩
    · have d1 : decide ((n : Int) ≤ 256) = false := by simp; omega
      have h8 := chk_big (L := L) (by have := HN.out; omega)
      rw [h8] at hch
      go_enter Try.func3, Try.ntmps3
      go_wp2_with (first
        | (go_at_call 6; refine hlight.mono ?_; rintro e ww ⟨rfl, rfl⟩)
        | (go_at_call 7; refine (awake_any _).mono ?_; rintro e y1 ⟨rfl, hb1⟩)
        | (go_at_call 8; refine (hch y1 hb1).mono ?_; rintro e y2 ⟨rfl, hb2⟩))
      go_ret
      exact ⟨rfl, hb1.trans (hb2.mono hb1.size)⟩
  | true =>
    rw [hl] at hlight
    have hnn : n = L.length := HN.out
    by_cases h0 : chk L = 0
    · have hO : ordL L = ord L n := by unfold ordL; rw [if_pos h0, ← HN.out]
      rw [h0, hO] at hord
      rw [h0] at hrc hch
      obtain ⟨o, ho⟩ : ∃ o, o = ord L n := ⟨_, rfl⟩
      rw [← ho] at hord hro
      have hm : o.length ≤ 9223372036854775807 := by
        have h1 := ok_len (ok_ord L n)
        rw [← ho] at h1
        have h2 := HP.out.2.1
        omega
      obtain ⟨m, hm2⟩ : ∃ m, m = o.length := ⟨_, rfl⟩
      rw [← hm2] at hord hro hm
      clear ho hO h0 hnn hm2
      go_enter Try.func3, Try.ntmps3
      go_wp2_with (first
        | (go_at_call 6; refine hlight.mono ?_; rintro e ww ⟨rfl, rfl⟩)
        | (go_at_call 9; refine hord.mono ?_; rintro e y1 ⟨⟨v, rfl, hown⟩, hb1⟩; obtain ⟨va, vc, rfl⟩ := own_form hown)
        | (go_at_call 10; refine (hrc y1 hb1).mono ?_; rintro e y2 ⟨rfl, hb2⟩; have hw2 := hb1.trans (hb2.mono hb1.size))
        | (go_at_call 8; refine (hch y2 hw2).mono ?_; rintro e y3 ⟨rfl, hb3⟩; have hw3 := hw2.trans (hb3.mono hw2.size))
        | (go_at_call 7; refine (awake_any _).mono ?_; rintro e y4 ⟨rfl, hb4⟩; have hw4 := hw3.trans (hb4.mono hw3.size))
        | (go_at_call 12; refine (hro y4 hw4).mono ?_; rintro e y5 ⟨⟨v2, rfl, hown2⟩, hb5⟩; have hw5 := hw4.trans (hb5.mono hw4.size); obtain ⟨va2, vc2, rfl⟩ := own_form hown2; have hrA := own_ro (((Ls.own_below (Ls.own_below (Ls.own_below hown hb2) hb3) hb4) |> fun h => Ls.own_below h hb5)) hm; have hrB := own_ro hown2 hm; have hS := same_any _ _ _ _ y5 hrA hrB; rw [show decide (o = o) = true from decide_eq_true rfl] at hS)
        | (go_at_call 11; refine hS.mono ?_; rintro e y6 ⟨rfl, hb6⟩))
      go_ret
      exact ⟨rfl, hw5.trans (hb6.mono hw5.size)⟩
    · have hO : ordL L = [] := by unfold ordL; rw [if_neg h0]
      rw [hO] at hord
      have d0 : decide (chk L = 0) = false := by simp [h0]
      obtain ⟨E, hE⟩ : ∃ E, E = chk L := ⟨_, rfl⟩
      rw [← hE] at hord hrc hch h0 d0
      clear hE hO hnn hro
      go_enter Try.func3, Try.ntmps3
      go_wp2_with (first
        | (go_at_call 6; refine hlight.mono ?_; rintro e ww ⟨rfl, rfl⟩)
        | (go_at_call 9; refine hord.mono ?_; rintro e y1 ⟨⟨v, rfl, hown⟩, hb1⟩; obtain ⟨va, vc, rfl⟩ := own_form hown)
        | (go_at_call 10; refine (hrc y1 hb1).mono ?_; rintro e y2 ⟨rfl, hb2⟩; have hw2 := hb1.trans (hb2.mono hb1.size))
        | (go_at_call 8; refine (hch y2 hw2).mono ?_; rintro e y3 ⟨rfl, hb3⟩; have hw3 := hw2.trans (hb3.mono hw2.size))
        | (go_at_call 7; refine (awake_any _).mono ?_; rintro e y4 ⟨rfl, hb4⟩; have hw4 := hw3.trans (hb4.mono hw3.size)))
      go_ret
      exact ⟨rfl, hw4⟩
end Go.Proofs.Ytndpidmbfdpiaaa.planOrdersW
