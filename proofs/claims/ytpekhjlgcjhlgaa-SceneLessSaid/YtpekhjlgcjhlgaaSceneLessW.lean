/- SceneLess: the walk through the law. -/
import Derived.Test.YtpekhjlgcjhlgaaSm
import Derived.Test.YtpekhjlgcjhlgaaSq
import Derived.Deep.AppendLies
import Derived.Deep.MidRow
import Derived.Deep.DeepCutAuto
import Derived.Deep.RegionHeld3
import Derived.StillTailTactics
namespace Go.Proofs.Ytpekhjlgcjhlgaa.Sc
open Go.RowKit Go.Proofs.Ytpekhjlgcjhlgaa Go.Proofs.Ytpekhjlgcjhlgaa.Wa Go.Proofs.Ytpekhjlgcjhlgaa.Ve Go.Proofs.Ytpekhjlgcjhlgaa.Tk Go.Proofs.Ytpekhjlgcjhlgaa.Ls
set_option linter.unusedVariables false

theorem frozen0 {w : World} {g : Nat} {C : Array Value} {t : TypeId} (h : w.heap[g]? = some (.cells C t (0, 0))) (m : Nat) : w.frozen? ⟨g, m, none⟩ = false := by simp [World.frozen?, h]

theorem check_zero {s : Scn} (h : (chk s).1 = 0) {a : Pla} (w : World) (hs : ScAt w s a) :
    Calls Try.prog 9 #[SV s a] w fun e w' => (∃ p, e = .returned (.tuple #[.int .i64 0, .int .i64 p])) ∧ Below w.heap.size w w' := by
  refine (check_any s a w hs).mono ?_
  rintro e w' ⟨rfl, hb⟩
  rw [h]
  exact ⟨⟨_, rfl⟩, hb⟩

theorem infoLP : (Try.prog.info? 76).map (fun i => (i.zero, i.size, i.bytes)) = some (some (.agg #[.int .i64 0, .int .i64 0, .int .i64 0, .int .i64 0, .int .i64 0]), 5, 40) := by kernel_rfl

theorem fl_one (c : Nat) (L : Nat → Int) (k : Nat) : ∀ u ∈ fl c L k, u.oneCell' = true := by
  intro u hu
  simp only [fl, List.mem_map] at hu
  obtain ⟨j, -, rfl⟩ := hu
  rfl

theorem lt_of_heap {w : World} {k : Nat} {o : Obj} (h : w.heap[k]? = some o) : k < w.heap.size := by
  rcases Nat.lt_or_ge k w.heap.size with h' | h'
  · exact h'
  · rw [Array.getElem?_eq_none h'] at h; cases h

/-- a scene with its last paint once more, where the paints stand in a row of their own -/
theorem more_at {w : World} {s : Scn} {a : Pla} {base g cg : Nat} {t : TypeId} (h : ScAt w s a) (hp : s.np < 32) (ho : w.ownsRow base t 5 (.slice (some ⟨g, 0, none⟩) (s.np + 1) cg) (s.np + 1) (fl 5 s.P s.np ++ [.int .i64 (s.P ((s.np - 1) * 5)), .int .i64 (s.P ((s.np - 1) * 5 + 1)), .int .i64 (s.P ((s.np - 1) * 5 + 2)), .int .i64 (s.P ((s.np - 1) * 5 + 3)), .int .i64 (s.P ((s.np - 1) * 5 + 4))]))
    (hn : 0 < s.np := by omega) : ScAt w (moreP s) { a with pa := some ⟨g, 0, none⟩, pc := cg } := by
  refine ⟨⟨by show (s.np + 1) * (5 * 8) ≤ _; omega, .inr ⟨g, 0, rfl, (ho.lt g rfl).2, fun j hj => ?_⟩⟩, h.t, h.j, h.sh, h.sd⟩
  have hj' : j < (s.np + 1) * 5 := hj
  rw [Nat.zero_add, ho.cellAt j (by omega)]
  have hl : (fl 5 s.P s.np).length = s.np * 5 := by simp [fl]
  by_cases e : j < s.np * 5
  · rw [List.getElem?_append_left (by omega), fl_at 5 s.P s.np j e]
    show _ = some (Value.int .i64 (if j < s.np * 5 then s.P j else s.P (j - 5)))
    rw [if_pos e]
  · rw [List.getElem?_append_right (by omega), hl]
    show _ = some (Value.int .i64 (if j < s.np * 5 then s.P j else s.P (j - 5)))
    rw [if_neg e]
    obtain ⟨c, rfl⟩ : ∃ c, j = s.np * 5 + c := ⟨j - s.np * 5, by omega⟩
    rw [Nat.add_sub_cancel_left]
    have hc : c < 5 := by omega
    match c, hc with
    | 0, _ => rw [show s.np * 5 + 0 - 5 = (s.np - 1) * 5 by omega]; rfl
    | 1, _ => rw [show s.np * 5 + 1 - 5 = (s.np - 1) * 5 + 1 by omega]; rfl
    | 2, _ => rw [show s.np * 5 + 2 - 5 = (s.np - 1) * 5 + 2 by omega]; rfl
    | 3, _ => rw [show s.np * 5 + 3 - 5 = (s.np - 1) * 5 + 3 by omega]; rfl
    | 4, _ => rw [show s.np * 5 + 4 - 5 = (s.np - 1) * 5 + 4 by omega]; rfl

abbrev ZSc : Array Value := #[.int .i64 0, .int .i64 0, .int .i64 0, .int .i64 0, .int .i64 0, .int .i64 0, .int .u64 0, .int .i64 0, .int .i64 0, .int .i64 0, .int .i64 0, .int .i64 0, .int .i64 0, .slice none 0 0, .slice none 0 0, .slice none 0 0, .slice none 0 0]

set_option maxHeartbeats 8000000 in
set_option maxRecDepth 100000 in
theorem lessW_walk (HTO : ∀ (s : Scn) (a : Pla) (w : World), ScAt w s a → Calls Try.prog 10 #[SV s a] w fun e w' => (∃ a', e = .returned (SV s a') ∧ s.ns ≤ a'.sc ∧ ScAt w' s a') ∧ Below w.heap.size w w') (s : Scn) (a : Pla) (w : World) (hs : ScAt w s a) :
    Calls Try.prog 5 #[SV s a] w fun e w' => e = .returned (.bool true) ∧ Below w.heap.size w w' := by
  obtain ⟨c0, hc0⟩ : ∃ c0 : List Value, c0 = (SC s a).toList := ⟨_, rfl⟩
  have e0 : SV s a = .agg c0.toArray := by rw [hc0]
  have HE0 := Lib.hid e0
  have HB0 := Lib.hid (heap_alloc_last w (.cells c0.toArray 32))
  have HS0 := Lib.hid (hs.on (below_n1 w (.cells c0.toArray 32)))
  have HW0 := Lib.hid (below_n1 w (.cells c0.toArray 32))
  have HZ0 := Lib.hid (show (Try.prog.info? 32).map (·.size) = some c0.length by rw [hc0]; kernel_rfl)
  have HZA := Lib.hid (show (Try.prog.info? 32).map (·.size) = some c0.toArray.size by rw [hc0]; kernel_rfl)
  have hl0 : w.heap.size < (w.alloc (.cells c0.toArray 32)).heap.size := by simp
  rw [e0]
  clear hs hc0 e0
  go_enter Try.func5, Try.ntmps5
  go_wp2_with (first | (with_reducible refine wpList_load_row rfl 32 (.tmp 1) rfl w.heap.size rfl 32 c0.toArray (0, 0) _ HB0.out Try.underlying32 rfl HZA.out ?_))
  rw [← HE0.out]
  refine (HTO s a _ HS0.out).mono ?_
  rintro e w1 ⟨⟨a1, rfl, hcap, hs1⟩, hb1⟩
  obtain ⟨c1, hc1⟩ : ∃ c1 : List Value, c1 = (SC s a1).toList := ⟨_, rfl⟩
  have e1 : SV s a1 = .agg c1.toArray := by rw [hc1]
  have HE1 := Lib.hid e1
  have HL1 := Lib.hid hc1
  have HC1 := Lib.hid (show c1.toArray = SC s a1 by rw [hc1])
  have HZ1 := Lib.hid (show (Try.prog.info? 50).map (·.size) = some c1.toArray.size by rw [hc1]; kernel_rfl)
  have HZ2 := Lib.hid (show ZSc.size = c1.toArray.size by rw [hc1]; rfl)
  have HZ3 := Lib.hid (show c1.toArray.all (·.oneCell') = true by rw [hc1]; simp [Value.oneCell'])
  have HX1 := Lib.hid (heap_alloc_last w1 (.cells c1.toArray 50))
  have HS1 := Lib.hid (hs1.on (below_n1 w1 (.cells c1.toArray 50)))
  have hA1 := below_n1 w1 (.cells c1.toArray 50)
  have HW1 := Lib.hid (HW0.out.trans ((hb1.trans (hA1.mono hb1.size)).mono HW0.out.size))
  have HB1 := Lib.hid (((hb1.trans (hA1.mono hb1.size)).block _ hl0).trans HB0.out)
  have HSA1 := Lib.hid (HS0.out.on (hb1.trans (hA1.mono hb1.size)))
  have hl1 : w.heap.size < w1.heap.size := Nat.lt_of_lt_of_le hl0 hb1.size
  rw [e1]
  clear hs1 hc1 e1 hA1
  go_wp2_with (first | (with_reducible refine Re.wpList_store_new rfl 50 (.tmp 3) (.tmp 18) rfl w1 ZSc c1.toArray w1.heap.size rfl rfl rfl HZ1.out HZ2.out HZ3.out ?_) | (with_reducible refine wpList_load_row rfl 50 (.tmp 3) rfl w1.heap.size rfl 50 c1.toArray (0, 0) _ HX1.out Try.underlying50 rfl HZ1.out ?_))
  rw [← HE1.out]
  refine (check_any s a1 _ HS1.out).mono ?_
  rintro e w2 ⟨rfl, hb2⟩
  rw [HE1.out]
  have HX2 := Lib.hid ((hb2.block _ (by simp)).trans HX1.out)
  have HS2 := Lib.hid (HS1.out.on hb2)
  have HW2 := Lib.hid (HW1.out.trans (hb2.mono HW1.out.size))
  have HB2 := Lib.hid ((hb2.block _ (by simp; omega)).trans HB1.out)
  have HSA2 := Lib.hid (HSA1.out.on hb2)
  have hl2 : w1.heap.size < w2.heap.size := by have := hb2.size; simp at this; omega
  obtain ⟨er, her⟩ : ∃ er, er = (chk s).1 := ⟨_, rfl⟩
  obtain ⟨ep, hep⟩ : ∃ ep, ep = (chk s).2 := ⟨_, rfl⟩
  have HER := Lib.hid her
  rw [← her, ← hep]
  clear her hep hb2 HX1 HS1 HW1 HB1 HSA1 hb1
  go_wp2_with (first | (with_reducible refine wpList_load_row rfl 32 (.tmp 1) rfl w.heap.size rfl 32 c0.toArray (0, 0) _ HB2.out Try.underlying32 rfl HZA.out ?_))
  rw [← HE0.out]
  refine (small_any s a _ HSA2.out).mono ?_
  rintro e w3 ⟨rfl, hb3⟩
  rw [HE0.out]
  have HX3 := Lib.hid ((hb3.block _ hl2).trans HX2.out)
  have HS3 := Lib.hid (HS2.out.on hb3)
  have HW3 := Lib.hid (HW2.out.trans (hb3.mono HW2.out.size))
  have hl3 : w1.heap.size < w3.heap.size := Nat.lt_of_lt_of_le hl2 hb3.size
  obtain ⟨sm, hsm⟩ : ∃ sm, sm = smallB s := ⟨_, rfl⟩
  rw [← hsm]
  clear hsm hb3 HX2 HS2 HW2 HB2 HSA2
  cases sm
  · go_wp2_with fail
    refine (awake_any _).mono ?_
    rintro e w4 ⟨rfl, hb4⟩
    go_wp2
    go_ret
    exact ⟨rfl, HW3.out.trans (hb4.mono HW3.out.size)⟩
  · by_cases h0 : er = 0
    · subst h0
      have hok : (chk s).1 = 0 := HER.out.symm
      have HOK := Lib.hid hok
      have HQ3 := Lib.hid (show SBox w3 w1.heap.size s a1 from sbox_heap (by rw [← HC1.out]; exact HX3.out))
      have d16 := HQ3.out.c16
      have d13 := HQ3.out.c13
      have hYB0 := Lib.hid (heap_alloc_last w3 (.cells c1.toArray 50))
      have hns9 := HS3.out.sh.1
      clear HER hok
      by_cases hn : s.ns = 0
      · have hn' : (s.ns : Int) = 0 := by omega
        go_upto_region 9 with (first | (with_reducible refine wpList_load_row rfl 50 (.tmp 3) rfl w1.heap.size rfl 50 c1.toArray (0, 0) _ HX3.out Try.underlying50 rfl HZ1.out ?_) | (with_reducible refine Re.wpList_store_new rfl 50 (.tmp 6) (.tmp 32) rfl w3 ZSc c1.toArray w3.heap.size rfl rfl rfl HZ1.out HZ2.out HZ3.out ?_))
        obtain ⟨ay, hay⟩ : ∃ ay, ay = a1 := ⟨_, rfl⟩
        obtain ⟨cy, hcy⟩ : ∃ cy : List Value, cy = c1 := ⟨_, rfl⟩
        have HCy := Lib.hid (show cy.toArray = SC (lessS s) ay by rw [hcy, hay, HC1.out]; show SC s a1 = SC (lessS s) a1; simp [SC, lessS, hn])
        have HTl := Lib.hid (show ScAt w3 (lessS s) ay by rw [hay]; exact HS3.out.lessS a1.sc)
        rw [← hcy]
        clear hcy hay
        have hby := below_n1 w3 (.cells cy.toArray 50)
        have HYy := Lib.hid (heap_alloc_last w3 (.cells cy.toArray 50))
        obtain ⟨wy, hwy⟩ : ∃ wy, w3.alloc (.cells cy.toArray 50) = wy := ⟨_, rfl⟩
        rw [hwy] at hby HYy ⊢
        have HXy := Lib.hid ((hby.block _ hl3).trans HX3.out)
        have HSy := Lib.hid (HS3.out.on hby)
        have HTy0 := Lib.hid (HTl.out.on hby)
        have HWy := Lib.hid (HW3.out.trans (hby.mono HW3.out.size))
        have hlxy := Nat.lt_of_lt_of_le hl3 hby.size
        have hlyy : w3.heap.size < wy.heap.size := by rw [← hwy]; simp
        have HEy := Lib.hid (show SV (lessS s) ay = .agg cy.toArray by rw [HCy.out])
        have d13y := (World.cell?_of_block (a := ⟨w1.heap.size, 13, none⟩) (hby.block _ hl3)).trans d13
        have hLow0 := hby.block
        clear hby hwy HTl
        by_cases hp : s.np = 0
        · have hp' : (s.np : Int) = 0 := by omega
          go_upto_region 13 with (first | (with_reducible refine wpList_load_row rfl 50 (.tmp 3) rfl w1.heap.size rfl 50 c1.toArray (0, 0) _ HXy.out Try.underlying50 rfl HZ1.out ?_) | (with_reducible refine Re.wpList_store_new rfl 50 (.tmp 8) (.tmp 44) rfl wy ZSc c1.toArray wy.heap.size rfl rfl rfl HZ1.out HZ2.out HZ3.out ?_))
          have hbz := below_n1 wy (.cells c1.toArray 50)
          have HZz := Lib.hid (heap_alloc_last wy (.cells c1.toArray 50))
          obtain ⟨wz, hwz⟩ : ∃ wz, wy.alloc (.cells c1.toArray 50) = wz := ⟨_, rfl⟩
          rw [hwz] at hbz HZz ⊢
          have HXz := Lib.hid ((hbz.block _ hlxy).trans HXy.out)
          have HYz := Lib.hid ((hbz.block _ hlyy).trans HYy.out)
          have HTy := Lib.hid (HTy0.out.on hbz)
          have HTz := Lib.hid (HSy.out.on hbz)
          have HSz := HTz
          have HWz := Lib.hid (HWy.out.trans (hbz.mono HWy.out.size))
          have hlyz := Nat.lt_of_lt_of_le hlyy hbz.size
          have hlzz : wy.heap.size < wz.heap.size := by rw [← hwz]; simp
          obtain ⟨cz, hcz⟩ : ∃ cz : List Value, cz = c1 := ⟨_, rfl⟩
          rw [← hcz] at HZz
          have HCz := Lib.hid (show cz.toArray = SC s a1 by rw [hcz]; exact HC1.out)
          have HEz := Lib.hid (show SV s a1 = .agg cz.toArray by rw [HCz.out])
          have HOKz := HOK
          clear hbz hwz hcz
          have hwB := Lib.hid (heap_alloc_last wz (.cells c1.toArray 50))
          have hy4 : (wz.alloc (.cells c1.toArray 50)).cell? ⟨wz.heap.size, 4, none⟩ = some (.int .i64 s.fr) := by rw [cell_of_row _ _ 4 _ _ _ hwB.out, HC1.out]; rfl
          have hyf4 : (wz.alloc (.cells c1.toArray 50)).frozen? ⟨wz.heap.size, 4, none⟩ = false := frozen0 hwB.out 4
          obtain ⟨cw, hcw⟩ : ∃ cw, cw = c1.set 4 (.int .i64 1) := ⟨_, rfl⟩
          have HCW := Lib.hid (show cw.toArray = SC (oneF s) a1 by rw [hcw, HL1.out]; rfl)
          have HEw := Lib.hid (show SV (oneF s) a1 = .agg cw.toArray by rw [HCW.out])
          have HZy := Lib.hid (show (Try.prog.info? 50).map (·.size) = some cy.toArray.size by rw [HCy.out]; kernel_rfl)
          have HZz2 := Lib.hid (show (Try.prog.info? 50).map (·.size) = some cz.toArray.size by rw [HCz.out]; kernel_rfl)
          have HZw := Lib.hid (show (Try.prog.info? 50).map (·.size) = some cw.toArray.size by rw [HCW.out]; kernel_rfl)
          go_upto_region 15 with (first | (with_reducible refine wpList_load_row rfl 50 (.tmp 3) rfl w1.heap.size rfl 50 c1.toArray (0, 0) _ HXz.out Try.underlying50 rfl HZ1.out ?_) | (with_reducible refine Re.wpList_store_new rfl 50 (.tmp 10) (.tmp 67) rfl wz ZSc c1.toArray wz.heap.size rfl rfl rfl HZ1.out HZ2.out HZ3.out ?_))
          try rw [← hcw]
          have hbw := below_n1 wz (.cells cw.toArray 50)
          have hwW := Lib.hid (heap_alloc_last wz (.cells cw.toArray 50))
          obtain ⟨wv, hwv⟩ : ∃ wv, wz.alloc (.cells cw.toArray 50) = wv := ⟨_, rfl⟩
          rw [hwv] at hbw hwW ⊢
          have HY5 := Lib.hid ((hbw.block _ hlyz).trans HYz.out)
          have HZ5 := Lib.hid ((hbw.block _ hlzz).trans HZz.out)
          have HT5y := Lib.hid (HTy.out.on hbw)
          have HT5z := Lib.hid (HTz.out.on hbw)
          have HT5w := Lib.hid ((HSz.out.on hbw).one)
          have HW5 := Lib.hid (HWz.out.trans (hbw.mono HWz.out.size))
          have hl5y := Nat.lt_of_lt_of_le hlyz hbw.size
          have hl5z := Nat.lt_of_lt_of_le hlzz hbw.size
          have hl5w : wz.heap.size < wv.heap.size := by rw [← hwv]; simp
          clear hbw hwv hcw hwB hy4 hyf4
          go_wp2_with (first | (with_reducible refine wpList_load_row rfl 50 (.tmp 6) rfl w3.heap.size rfl 50 cy.toArray (0, 0) _ HY5.out Try.underlying50 rfl HZy.out ?_))
          rw [← HEy.out]
          refine (check_zero (less_ok HOK.out) _ HT5y.out).mono ?_
          rintro e w6 ⟨⟨p6, rfl⟩, hb6⟩
          rw [HEy.out]
          have HZ6 := Lib.hid ((hb6.block _ hl5z).trans HZ5.out)
          have HT6z := Lib.hid (HT5z.out.on hb6)
          have HW6 := Lib.hid (HW5.out.trans (hb6.mono HW5.out.size))
          have hwW6 := Lib.hid ((hb6.block _ hl5w).trans hwW.out)
          have HT6w := Lib.hid (HT5w.out.on hb6)
          have hl6z := Nat.lt_of_lt_of_le hl5z hb6.size
          have hl6w := Nat.lt_of_lt_of_le hl5w hb6.size
          clear hb6
          go_wp2_with (first | (with_reducible refine wpList_load_row rfl 50 (.tmp 8) rfl wy.heap.size rfl 50 cz.toArray (0, 0) _ HZ6.out Try.underlying50 rfl HZz2.out ?_))
          rw [← HEz.out]
          refine (check_zero HOKz.out _ HT6z.out).mono ?_
          rintro e w7 ⟨⟨p7, rfl⟩, hb7⟩
          rw [HEz.out]
          have HW7 := Lib.hid (HW6.out.trans (hb7.mono HW6.out.size))
          have hwW7 := Lib.hid ((hb7.block _ hl6w).trans hwW6.out)
          have HT7w := Lib.hid (HT6w.out.on hb7)
          clear hb7
          go_wp2_with (first | (with_reducible refine wpList_load_row rfl 50 (.tmp 10) rfl wz.heap.size rfl 50 cw.toArray (0, 0) _ hwW7.out Try.underlying50 rfl HZw.out ?_))
          rw [← HEw.out]
          refine (check_zero (oneF_ok HOK.out) _ HT7w.out).mono ?_
          rintro e w8 ⟨⟨p8, rfl⟩, hb8⟩
          rw [HEw.out]
          have HW8 := Lib.hid (HW7.out.trans (hb8.mono HW7.out.size))
          clear hb8
          go_wp2_with fail
          refine (awake_any _).mono ?_
          rintro e w9 ⟨rfl, hb9⟩
          have HW9 := Lib.hid (HW8.out.trans (hb9.mono HW8.out.size))
          go_wp2
          go_ret
          exact ⟨rfl, HW9.out⟩
        · have hp' : (0 : Int) < s.np := by omega
          by_cases hp32 : s.np < 32
          · have hp32' : (s.np : Int) < 32 := by omega
            obtain ⟨ip, hip, hz0p, hz1p, hz2p⟩ := info_parts infoLP
            have hnp0 : 0 < s.np := by omega
            obtain ⟨-, h9 | ⟨b4, off4, hpa, hb4, hpc⟩⟩ := HS3.out.p
            · omega
            rw [hpa] at d13
            have hnq : ((s.np : Int) - 1).toNat = s.np - 1 := by omega
            have hwr : IntKind.i64.wrap ((s.np : Int) - 1) = (s.np : Int) - 1 := by
              have e : IntKind.i64.wrap ((s.np : Int) - 1) = if 9223372036854775808 ≤ ((s.np : Int) - 1) % 18446744073709551616 then ((s.np : Int) - 1) % 18446744073709551616 - 18446744073709551616 else ((s.np : Int) - 1) % 18446744073709551616 := by simp [IntKind.wrap, IntKind.bits, IntKind.signed]
              rw [e]; split <;> omega
            have hnp1 : (1 : Int) ≤ s.np := by omega
            have hnq1 : (0 : Int) ≤ (s.np : Int) - 1 := by omega
            have hnq2 : (s.np : Int) - 1 < s.np := by omega
            have f0 : w3.cell? ⟨b4, off4 + (s.np - 1) * 5, none⟩ = some (.int .i64 (s.P ((s.np - 1) * 5))) := by have := hpc ((s.np - 1) * 5) (by omega); exact this
            have f1 : w3.cell? ⟨b4, off4 + (s.np - 1) * 5 + 1, none⟩ = some (.int .i64 (s.P ((s.np - 1) * 5 + 1))) := by have := hpc ((s.np - 1) * 5 + 1) (by omega); rwa [← Nat.add_assoc] at this
            have f2 : w3.cell? ⟨b4, off4 + (s.np - 1) * 5 + 2, none⟩ = some (.int .i64 (s.P ((s.np - 1) * 5 + 2))) := by have := hpc ((s.np - 1) * 5 + 2) (by omega); rwa [← Nat.add_assoc] at this
            have f3 : w3.cell? ⟨b4, off4 + (s.np - 1) * 5 + 3, none⟩ = some (.int .i64 (s.P ((s.np - 1) * 5 + 3))) := by have := hpc ((s.np - 1) * 5 + 3) (by omega); rwa [← Nat.add_assoc] at this
            have f4 : w3.cell? ⟨b4, off4 + (s.np - 1) * 5 + 4, none⟩ = some (.int .i64 (s.P ((s.np - 1) * 5 + 4))) := by have := hpc ((s.np - 1) * 5 + 4) (by omega); rwa [← Nat.add_assoc] at this
            have HB0 : Below wy.heap.size wy (wy.alloc (.cells c1.toArray 50)).drew := (below_n1 wy _).drew
            have HQ0 : (wy.alloc (.cells c1.toArray 50)).drew.heap[wy.heap.size]? = some (.cells c1.toArray 50 (0, 0)) := heap_alloc_last wy (.cells c1.toArray 50)
            have lq0 : wy.heap.size < (wy.alloc (.cells c1.toArray 50)).drew.heap.size := by show _ < (wy.alloc _).heap.size; rw [World.size_alloc]; omega
            have lb0 : wy.heap.size + 1 ≤ (wy.alloc (.cells c1.toArray 50)).drew.heap.size := lq0
            have hz0 : w3.heap.size ≤ (wy.alloc (.cells c1.toArray 50)).drew.heap.size := by omega
            have hLow : ∀ k, k < w3.heap.size → (wy.alloc (.cells c1.toArray 50)).drew.heap[k]? = w3.heap[k]? := fun k hk => ((below_n1 wy (.cells c1.toArray 50)).block k (by omega)).trans (hLow0 k hk)
            go_upto_region 12 with (first | (with_reducible refine wpList_load_row rfl 50 (.tmp 3) rfl w1.heap.size rfl 50 c1.toArray (0, 0) _ HXy.out Try.underlying50 rfl HZ1.out ?_) | (with_reducible refine Re.wpList_store_new rfl 50 (.tmp 8) (.tmp 44) rfl wy ZSc c1.toArray wy.heap.size rfl rfl rfl HZ1.out HZ2.out HZ3.out ?_))
            refine wp_region_held_drew (S := fun y => ∀ k, k < w3.heap.size → y.heap[k]? = w3.heap[k]?) (by kernel_rfl) (hLow) (fun hS0 => ?_)
            obtain ⟨y0, hy0⟩ : ∃ y0, (wy.alloc (.cells c1.toArray 50)).drew = y0 := ⟨_, rfl⟩
            rw [hy0] at hS0 HB0 HQ0 lq0 lb0 hz0 ⊢
            clear hy0 hLow
            refine wpAnyH_take (i := 1) (v := ?_) rfl (by kernel_rfl) (by kernel_rfl) (by kernel_rfl) (fun _ _ _ h => h) (Or.inl ⟨by kernel_rfl, by (intro wz hSz; go_simp; try with_reducible rfl)⟩) hS0 ?_
            go_simp
            refine wpAnyH_take (i := 2) (v := ?_) rfl (by kernel_rfl) (by kernel_rfl) (by kernel_rfl) (fun _ _ _ h => h) (Or.inl ⟨by kernel_rfl, by (intro wz hSz; have d13z := (World.cell?_of_block (a := ⟨w1.heap.size, 13, none⟩) (hSz _ hl3)).trans d13; go_simp; try with_reducible rfl)⟩) hS0 ?_
            go_simp
            refine wpAnyH_take (i := 4) (v := ?_) rfl (by kernel_rfl) (by kernel_rfl) (by kernel_rfl) (fun _ _ _ h => h) (Or.inl ⟨by kernel_rfl, by (intro wz hSz; go_simp; try with_reducible rfl)⟩) hS0 ?_
            go_simp
            refine wpAnyH_take (i := 5) (v := ?_) rfl (by kernel_rfl) (by kernel_rfl) (by kernel_rfl) (fun _ _ _ h => h) (Or.inl ⟨by kernel_rfl, by (intro wz hSz; have d13z := (World.cell?_of_block (a := ⟨w1.heap.size, 13, none⟩) (hSz _ hl3)).trans d13; go_simp; try with_reducible rfl)⟩) hS0 ?_
            go_simp
            refine wpAnyH_take (i := 6) (v := ?_) rfl (by kernel_rfl) (by kernel_rfl) (by kernel_rfl) (fun _ _ _ h => h) (Or.inl ⟨by kernel_rfl, by (intro wz hSz; go_simp; try with_reducible rfl)⟩) hS0 ?_
            go_simp
            refine wpAnyH_take (i := 7) (v := ?_) rfl (by kernel_rfl) (by kernel_rfl) (by kernel_rfl) (fun _ _ _ h => h) (Or.inl ⟨by kernel_rfl, by (intro wz hSz; go_simp; try with_reducible rfl)⟩) hS0 ?_
            go_simp
            refine wpAnyH_take (i := 8) (v := ?_) rfl (by kernel_rfl) (by kernel_rfl) (by kernel_rfl) (fun _ _ _ h => h) (Or.inl ⟨by kernel_rfl, by (intro wz hSz; go_simp; try with_reducible rfl)⟩) hS0 ?_
            go_simp
            refine wpAnyH_take (i := 9) (v := ?_) rfl (by kernel_rfl) (by kernel_rfl) (by kernel_rfl) (fun _ _ _ h => h) (Or.inl ⟨by kernel_rfl, by (intro wz hSz; have f0z := (World.cell?_of_block (a := ⟨b4, off4 + (s.np - 1) * 5, none⟩) (hSz _ hb4)).trans f0; have f1z := (World.cell?_of_block (a := ⟨b4, off4 + (s.np - 1) * 5 + 1, none⟩) (hSz _ hb4)).trans f1; have f2z := (World.cell?_of_block (a := ⟨b4, off4 + (s.np - 1) * 5 + 2, none⟩) (hSz _ hb4)).trans f2; have f3z := (World.cell?_of_block (a := ⟨b4, off4 + (s.np - 1) * 5 + 3, none⟩) (hSz _ hb4)).trans f3; have f4z := (World.cell?_of_block (a := ⟨b4, off4 + (s.np - 1) * 5 + 4, none⟩) (hSz _ hb4)).trans f4; go_simp; try with_reducible rfl)⟩) hS0 ?_
            go_simp
            refine wpAnyH_ready (rs := [0, 10]) (by kernel_rfl) (by simp) ?_
            refine AllReadyH.cons rfl (fun K hK => ?_) (AllReadyH.cons rfl (fun K hK => ?_) AllReadyH.nil)
            · skip
              go_simp
              have hb1 := below_n1 y0 (.cells #[] 76)
              have hz1 : w3.heap.size ≤ (y0.alloc (.cells #[] 76)).heap.size := Nat.le_trans hz0 hb1.size
              have HB1 := HB0.trans (hb1.mono HB0.size)
              have HQ1 := (hb1.block _ lq0).trans HQ0
              have lq1 := Nat.lt_of_lt_of_le lq0 hb1.size
              have hs1 : (y0.alloc (.cells #[] 76)).heap.size = y0.heap.size + 1 := by rw [World.size_alloc]
              have hO1 := World.ownsRow_lit (base := wy.heap.size + 1) (size := 5) y0 #[] 0 (e := 76) lb0 (by unfold maxLen; omega) rfl
              try rw [World.size_alloc] at hO1
              have lb1 : wy.heap.size + 1 ≤ (y0.alloc (.cells #[] 76)).heap.size := Nat.le_trans lb0 hb1.size
              refine hK.out _ _ (fun k hk => (hb1.block k (Nat.lt_of_lt_of_le hk hz0)).trans (hS0 k hk)) (fun hS1 => ?_)
              clear hK K
              refine wpAnyH_ready (rs := [3, 10]) (by kernel_rfl) (by simp) ?_
              refine AllReadyH.cons rfl (fun K hK => ?_) (AllReadyH.cons rfl (fun K hK => ?_) AllReadyH.nil)
              · skip
                have hnews2 : ∀ j u, (fl 5 s.P s.np)[j]? = some u → (y0.alloc (.cells #[] 76)).cell? ((⟨b4, off4, none⟩ : Addr).add j) = some u := by
                  intro j u hj
                  have hj5 : j < s.np * 5 := by
                    rcases Nat.lt_or_ge j (s.np * 5) with h' | h'
                    · exact h'
                    · rw [List.getElem?_eq_none (by simp [fl]; omega)] at hj; cases hj
                  rw [fl_at 5 s.P s.np j hj5] at hj
                  cases hj
                  rw [Addr.add_mid]
                  exact (World.cell?_of_block (a := ⟨b4, off4 + j, none⟩) (hS1 b4 hb4)).trans (hpc j hj5)
                refine step_append_lies _ rfl _ _ 45 rfl (wy.heap.size + 1) 76 ip (.agg #[.int .i64 0, .int .i64 0, .int .i64 0, .int .i64 0, .int .i64 0]) 5 40 Try.underlying45 hip hz0p hz1p hz2p rfl (by decide) _ _ _ rfl hO1 ⟨b4, off4, none⟩ s.np a1.pc (fl 5 s.P s.np) rfl (by simp [fl]) hnews2 (fl_one 5 s.P s.np) hnp0 (by unfold maxLen; omega) (by omega) lb1 _ rfl ?_
                intro g2 cg2 u2 ho2 hg2 hk2 hlx2
                have hz2 : w3.heap.size ≤ u2.heap.size := Nat.le_trans hz1 hg2.size
                have HB2 := HB1.grown hg2 HB1.size (fun q hq => by have := (hO1.lt q hq).1; omega)
                have HQ2 := (hg2.block wy.heap.size lq1 (fun e => by have := (hO1.lt _ e.symm).1; omega)).trans HQ1
                have lq2 := Nat.lt_of_lt_of_le lq1 hg2.size
                have lb2 : wy.heap.size + 1 ≤ u2.heap.size := Nat.le_trans lb1 hg2.size
                rw [Nat.zero_add, List.nil_append] at ho2
                simp only [Nat.zero_add]
                refine hK.out _ _ (fun k hk => (hg2.block k (Nat.lt_of_lt_of_le hk hz1) (fun e => by have := (hO1.lt _ e.symm).1; have := hlyy; omega)).trans (hS1 k hk)) (fun hS2 => ?_)
                clear hK K
                refine wpAnyH_ready (rs := [10]) (by kernel_rfl) (by simp) ?_
                refine AllReadyH.cons rfl (fun K hK => ?_) AllReadyH.nil
                go_simp
                have hb3 := below_n1 u2 (.cells #[.int .i64 (s.P ((s.np - 1) * 5)), .int .i64 (s.P ((s.np - 1) * 5 + 1)), .int .i64 (s.P ((s.np - 1) * 5 + 2)), .int .i64 (s.P ((s.np - 1) * 5 + 3)), .int .i64 (s.P ((s.np - 1) * 5 + 4))] 76)
                have hz3 : w3.heap.size ≤ (u2.alloc (.cells #[.int .i64 (s.P ((s.np - 1) * 5)), .int .i64 (s.P ((s.np - 1) * 5 + 1)), .int .i64 (s.P ((s.np - 1) * 5 + 2)), .int .i64 (s.P ((s.np - 1) * 5 + 3)), .int .i64 (s.P ((s.np - 1) * 5 + 4))] 76)).heap.size := Nat.le_trans hz2 hb3.size
                have HB3 := HB2.trans (hb3.mono HB2.size)
                have HQ3 := (hb3.block _ lq2).trans HQ2
                have lq3 := Nat.lt_of_lt_of_le lq2 hb3.size
                have hs3 : (u2.alloc (.cells #[.int .i64 (s.P ((s.np - 1) * 5)), .int .i64 (s.P ((s.np - 1) * 5 + 1)), .int .i64 (s.P ((s.np - 1) * 5 + 2)), .int .i64 (s.P ((s.np - 1) * 5 + 3)), .int .i64 (s.P ((s.np - 1) * 5 + 4))] 76)).heap.size = u2.heap.size + 1 := by rw [World.size_alloc]
                have hN3 : (u2.alloc (.cells #[.int .i64 (s.P ((s.np - 1) * 5)), .int .i64 (s.P ((s.np - 1) * 5 + 1)), .int .i64 (s.P ((s.np - 1) * 5 + 2)), .int .i64 (s.P ((s.np - 1) * 5 + 3)), .int .i64 (s.P ((s.np - 1) * 5 + 4))] 76)).heap[u2.heap.size]? = some (.cells #[.int .i64 (s.P ((s.np - 1) * 5)), .int .i64 (s.P ((s.np - 1) * 5 + 1)), .int .i64 (s.P ((s.np - 1) * 5 + 2)), .int .i64 (s.P ((s.np - 1) * 5 + 3)), .int .i64 (s.P ((s.np - 1) * 5 + 4))] 76 (0, 0)) := by have h := heap_alloc_last u2 (.cells #[.int .i64 (s.P ((s.np - 1) * 5)), .int .i64 (s.P ((s.np - 1) * 5 + 1)), .int .i64 (s.P ((s.np - 1) * 5 + 2)), .int .i64 (s.P ((s.np - 1) * 5 + 3)), .int .i64 (s.P ((s.np - 1) * 5 + 4))] 76); exact h
                have lN3 : u2.heap.size < (u2.alloc (.cells #[.int .i64 (s.P ((s.np - 1) * 5)), .int .i64 (s.P ((s.np - 1) * 5 + 1)), .int .i64 (s.P ((s.np - 1) * 5 + 2)), .int .i64 (s.P ((s.np - 1) * 5 + 3)), .int .i64 (s.P ((s.np - 1) * 5 + 4))] 76)).heap.size := lt_of_heap hN3
                have hO3 := own_below ho2 hb3
                have neN3 : u2.heap.size ≠ g2 := Nat.ne_of_gt hlx2
                have lb3 : wy.heap.size + 1 ≤ (u2.alloc (.cells #[.int .i64 (s.P ((s.np - 1) * 5)), .int .i64 (s.P ((s.np - 1) * 5 + 1)), .int .i64 (s.P ((s.np - 1) * 5 + 2)), .int .i64 (s.P ((s.np - 1) * 5 + 3)), .int .i64 (s.P ((s.np - 1) * 5 + 4))] 76)).heap.size := Nat.le_trans lb2 hb3.size
                refine hK.out _ _ (fun k hk => (hb3.block k (Nat.lt_of_lt_of_le hk hz2)).trans (hS2 k hk)) (fun hS3 => ?_)
                clear hK K
                refine wpAnyH_ready (rs := [11]) (by kernel_rfl) (by simp) ?_
                refine AllReadyH.cons rfl (fun K hK => ?_) AllReadyH.nil
                have hnews4 := World.news_of_block hN3
                refine step_append_lies _ rfl _ _ 45 rfl (wy.heap.size + 1) 76 ip (.agg #[.int .i64 0, .int .i64 0, .int .i64 0, .int .i64 0, .int .i64 0]) 5 40 Try.underlying45 hip hz0p hz1p hz2p rfl (by decide) _ _ _ rfl hO3 ⟨u2.heap.size, 0, none⟩ 1 1 [.int .i64 (s.P ((s.np - 1) * 5)), .int .i64 (s.P ((s.np - 1) * 5 + 1)), .int .i64 (s.P ((s.np - 1) * 5 + 2)), .int .i64 (s.P ((s.np - 1) * 5 + 3)), .int .i64 (s.P ((s.np - 1) * 5 + 4))] rfl rfl hnews4 (by intro u hu; simp at hu; rcases hu with rfl | rfl | rfl | rfl | rfl <;> rfl) (by omega) (by unfold maxLen; omega) (by omega) lb3 _ rfl ?_
                intro g4 cg4 u4 ho4 hg4 hk4 hlx4
                have hz4 : w3.heap.size ≤ u4.heap.size := Nat.le_trans hz3 hg4.size
                have HB4 := HB3.grown hg4 HB3.size (fun q hq => by have := (hO3.lt q hq).1; omega)
                have HQ4 := (hg4.block wy.heap.size lq3 (fun e => by have := (hO3.lt _ e.symm).1; omega)).trans HQ3
                have lq4 := Nat.lt_of_lt_of_le lq3 hg4.size
                have lb4 : wy.heap.size + 1 ≤ u4.heap.size := Nat.le_trans lb3 hg4.size
                refine hK.out _ _ (fun k hk => (hg4.block k (Nat.lt_of_lt_of_le hk hz3) (fun e => by have := (hO3.lt _ e.symm).1; have := hlyy; omega)).trans (hS3 k hk)) (fun hS4 => ?_)
                clear hK K
                refine wpAnyH_take (i := 12) (v := ?_) rfl (by kernel_rfl) (by kernel_rfl) (by kernel_rfl) (fun _ _ _ h => h) (Or.inl ⟨by kernel_rfl, by (intro wz hSz; go_simp; try with_reducible rfl)⟩) hS4 ?_
                go_simp
                refine wpAnyH_ready (rs := [13]) (by kernel_rfl) (by simp) ?_
                refine AllReadyH.cons rfl (fun K hK => ?_) AllReadyH.nil
                have o13 : u4.cell? ⟨wy.heap.size, 13, none⟩ = some (.slice a1.pa s.np a1.pc) := by rw [cell_of_row _ _ 13 _ _ _ HQ4, HC1.out]; rfl
                have fz13 := frozen0 HQ4 13
                go_simp
                refine hK.out _ _ (fun k hk => (Below.heap_setCell _ _ _ _ (by have := hlyy; show k ≠ wy.heap.size; omega)).trans (hS4 k hk)) (fun hSz => ?_)
                clear hK K
                refine wpAnyH_done (by kernel_rfl) ?_ _
                have HZ9 := heap_setCell_same u4 wy.heap.size 13 _ _ (.slice (some ⟨g4, 0, none⟩) (s.np + 1) cg4) HQ4
                have HB9 : Below wy.heap.size wy (u4.setCell ⟨wy.heap.size, 13, none⟩ (.slice (some ⟨g4, 0, none⟩) (s.np + 1) cg4)) := HB4.setCell (Nat.le_refl _) _
                have HO9 := ownsRow_setCell_below ho4 (a := ⟨wy.heap.size, 13, none⟩) (by show wy.heap.size < wy.heap.size + 1; omega) (.slice (some ⟨g4, 0, none⟩) (s.np + 1) cg4)
                obtain ⟨wz, hwz⟩ : ∃ wz, u4.setCell ⟨wy.heap.size, 13, none⟩ (.slice (some ⟨g4, 0, none⟩) (s.np + 1) cg4) = wz := ⟨_, rfl⟩
                rw [hwz] at HZ9 HB9 HO9 ⊢
                have hSz2 : wz.heap[w1.heap.size]? = w3.heap[w1.heap.size]? := by rw [← hwz]; exact hSz _ hl3
                obtain ⟨az, haz⟩ : ∃ az : Pla, az = { a1 with pa := some ⟨g4, 0, none⟩, pc := cg4 } := ⟨_, rfl⟩
                obtain ⟨cz, hcz⟩ : ∃ cz : List Value, cz = c1.set 13 (.slice (some ⟨g4, 0, none⟩) (s.np + 1) cg4) := ⟨_, rfl⟩
                have HXz := Lib.hid (hSz2.trans HX3.out)
                have HYz := Lib.hid ((HB9.block _ hlyy).trans HYy.out)
                have HZz := Lib.hid (show wz.heap[wy.heap.size]? = some (.cells cz.toArray 50 (0, 0)) by rw [HZ9, hcz]; simp)
                have HTy := Lib.hid (HTy0.out.on HB9)
                have HSz := Lib.hid (HSy.out.on HB9)
                have HTz := Lib.hid (show ScAt wz (moreP s) az by rw [haz]; exact more_at HSz.out hp32 HO9 hnp0)
                have HWz := Lib.hid (HWy.out.trans (HB9.mono HWy.out.size))
                have hlyz := Nat.lt_of_lt_of_le hlyy HB9.size
                have hlzz : wy.heap.size < wz.heap.size := (lt_of_heap HZ9)
                have HCz := Lib.hid (show cz.toArray = SC (moreP s) az by rw [hcz, haz, HL1.out]; rfl)
                have HEz := Lib.hid (show SV (moreP s) az = .agg cz.toArray by rw [HCz.out])
                have HOKz := Lib.hid (more_ok HOK.out hnp0 hp32)
                clear hwz hcz haz HZ9 HO9 HB9
                go_upto_region 13 with fail
                have hwB := Lib.hid (heap_alloc_last wz (.cells c1.toArray 50))
                have hy4 : (wz.alloc (.cells c1.toArray 50)).cell? ⟨wz.heap.size, 4, none⟩ = some (.int .i64 s.fr) := by rw [cell_of_row _ _ 4 _ _ _ hwB.out, HC1.out]; rfl
                have hyf4 : (wz.alloc (.cells c1.toArray 50)).frozen? ⟨wz.heap.size, 4, none⟩ = false := frozen0 hwB.out 4
                obtain ⟨cw, hcw⟩ : ∃ cw, cw = c1.set 4 (.int .i64 1) := ⟨_, rfl⟩
                have HCW := Lib.hid (show cw.toArray = SC (oneF s) a1 by rw [hcw, HL1.out]; rfl)
                have HEw := Lib.hid (show SV (oneF s) a1 = .agg cw.toArray by rw [HCW.out])
                have HZy := Lib.hid (show (Try.prog.info? 50).map (·.size) = some cy.toArray.size by rw [HCy.out]; kernel_rfl)
                have HZz2 := Lib.hid (show (Try.prog.info? 50).map (·.size) = some cz.toArray.size by rw [HCz.out]; kernel_rfl)
                have HZw := Lib.hid (show (Try.prog.info? 50).map (·.size) = some cw.toArray.size by rw [HCW.out]; kernel_rfl)
                go_upto_region 15 with (first | (with_reducible refine wpList_load_row rfl 50 (.tmp 3) rfl w1.heap.size rfl 50 c1.toArray (0, 0) _ HXz.out Try.underlying50 rfl HZ1.out ?_) | (with_reducible refine Re.wpList_store_new rfl 50 (.tmp 10) (.tmp 67) rfl wz ZSc c1.toArray wz.heap.size rfl rfl rfl HZ1.out HZ2.out HZ3.out ?_))
                try rw [← hcw]
                have hbw := below_n1 wz (.cells cw.toArray 50)
                have hwW := Lib.hid (heap_alloc_last wz (.cells cw.toArray 50))
                obtain ⟨wv, hwv⟩ : ∃ wv, wz.alloc (.cells cw.toArray 50) = wv := ⟨_, rfl⟩
                rw [hwv] at hbw hwW ⊢
                have HY5 := Lib.hid ((hbw.block _ hlyz).trans HYz.out)
                have HZ5 := Lib.hid ((hbw.block _ hlzz).trans HZz.out)
                have HT5y := Lib.hid (HTy.out.on hbw)
                have HT5z := Lib.hid (HTz.out.on hbw)
                have HT5w := Lib.hid ((HSz.out.on hbw).one)
                have HW5 := Lib.hid (HWz.out.trans (hbw.mono HWz.out.size))
                have hl5y := Nat.lt_of_lt_of_le hlyz hbw.size
                have hl5z := Nat.lt_of_lt_of_le hlzz hbw.size
                have hl5w : wz.heap.size < wv.heap.size := by rw [← hwv]; simp
                clear hbw hwv hcw hwB hy4 hyf4
                go_wp2_with (first | (with_reducible refine wpList_load_row rfl 50 (.tmp 6) rfl w3.heap.size rfl 50 cy.toArray (0, 0) _ HY5.out Try.underlying50 rfl HZy.out ?_))
                rw [← HEy.out]
                refine (check_zero (less_ok HOK.out) _ HT5y.out).mono ?_
                rintro e w6 ⟨⟨p6, rfl⟩, hb6⟩
                rw [HEy.out]
                have HZ6 := Lib.hid ((hb6.block _ hl5z).trans HZ5.out)
                have HT6z := Lib.hid (HT5z.out.on hb6)
                have HW6 := Lib.hid (HW5.out.trans (hb6.mono HW5.out.size))
                have hwW6 := Lib.hid ((hb6.block _ hl5w).trans hwW.out)
                have HT6w := Lib.hid (HT5w.out.on hb6)
                have hl6z := Nat.lt_of_lt_of_le hl5z hb6.size
                have hl6w := Nat.lt_of_lt_of_le hl5w hb6.size
                clear hb6
                go_wp2_with (first | (with_reducible refine wpList_load_row rfl 50 (.tmp 8) rfl wy.heap.size rfl 50 cz.toArray (0, 0) _ HZ6.out Try.underlying50 rfl HZz2.out ?_))
                rw [← HEz.out]
                refine (check_zero HOKz.out _ HT6z.out).mono ?_
                rintro e w7 ⟨⟨p7, rfl⟩, hb7⟩
                rw [HEz.out]
                have HW7 := Lib.hid (HW6.out.trans (hb7.mono HW6.out.size))
                have hwW7 := Lib.hid ((hb7.block _ hl6w).trans hwW6.out)
                have HT7w := Lib.hid (HT6w.out.on hb7)
                clear hb7
                go_wp2_with (first | (with_reducible refine wpList_load_row rfl 50 (.tmp 10) rfl wz.heap.size rfl 50 cw.toArray (0, 0) _ hwW7.out Try.underlying50 rfl HZw.out ?_))
                rw [← HEw.out]
                refine (check_zero (oneF_ok HOK.out) _ HT7w.out).mono ?_
                rintro e w8 ⟨⟨p8, rfl⟩, hb8⟩
                rw [HEw.out]
                have HW8 := Lib.hid (HW7.out.trans (hb8.mono HW7.out.size))
                clear hb8
                go_wp2_with fail
                refine (awake_any _).mono ?_
                rintro e w9 ⟨rfl, hb9⟩
                have HW9 := Lib.hid (HW8.out.trans (hb9.mono HW8.out.size))
                go_wp2
                go_ret
                exact ⟨rfl, HW9.out⟩
              · skip
                go_simp
                have hb2 := below_n1 (y0.alloc (.cells #[] 76)) (.cells #[.int .i64 (s.P ((s.np - 1) * 5)), .int .i64 (s.P ((s.np - 1) * 5 + 1)), .int .i64 (s.P ((s.np - 1) * 5 + 2)), .int .i64 (s.P ((s.np - 1) * 5 + 3)), .int .i64 (s.P ((s.np - 1) * 5 + 4))] 76)
                have hz2 : w3.heap.size ≤ ((y0.alloc (.cells #[] 76)).alloc (.cells #[.int .i64 (s.P ((s.np - 1) * 5)), .int .i64 (s.P ((s.np - 1) * 5 + 1)), .int .i64 (s.P ((s.np - 1) * 5 + 2)), .int .i64 (s.P ((s.np - 1) * 5 + 3)), .int .i64 (s.P ((s.np - 1) * 5 + 4))] 76)).heap.size := Nat.le_trans hz1 hb2.size
                have HB2 := HB1.trans (hb2.mono HB1.size)
                have HQ2 := (hb2.block _ lq1).trans HQ1
                have lq2 := Nat.lt_of_lt_of_le lq1 hb2.size
                have hs2 : ((y0.alloc (.cells #[] 76)).alloc (.cells #[.int .i64 (s.P ((s.np - 1) * 5)), .int .i64 (s.P ((s.np - 1) * 5 + 1)), .int .i64 (s.P ((s.np - 1) * 5 + 2)), .int .i64 (s.P ((s.np - 1) * 5 + 3)), .int .i64 (s.P ((s.np - 1) * 5 + 4))] 76)).heap.size = (y0.alloc (.cells #[] 76)).heap.size + 1 := by rw [World.size_alloc]
                have hN2 : ((y0.alloc (.cells #[] 76)).alloc (.cells #[.int .i64 (s.P ((s.np - 1) * 5)), .int .i64 (s.P ((s.np - 1) * 5 + 1)), .int .i64 (s.P ((s.np - 1) * 5 + 2)), .int .i64 (s.P ((s.np - 1) * 5 + 3)), .int .i64 (s.P ((s.np - 1) * 5 + 4))] 76)).heap[(y0.heap.size + 1)]? = some (.cells #[.int .i64 (s.P ((s.np - 1) * 5)), .int .i64 (s.P ((s.np - 1) * 5 + 1)), .int .i64 (s.P ((s.np - 1) * 5 + 2)), .int .i64 (s.P ((s.np - 1) * 5 + 3)), .int .i64 (s.P ((s.np - 1) * 5 + 4))] 76 (0, 0)) := by have h := heap_alloc_last (y0.alloc (.cells #[] 76)) (.cells #[.int .i64 (s.P ((s.np - 1) * 5)), .int .i64 (s.P ((s.np - 1) * 5 + 1)), .int .i64 (s.P ((s.np - 1) * 5 + 2)), .int .i64 (s.P ((s.np - 1) * 5 + 3)), .int .i64 (s.P ((s.np - 1) * 5 + 4))] 76); rw [World.size_alloc] at h; exact h
                have lN2 : (y0.heap.size + 1) < ((y0.alloc (.cells #[] 76)).alloc (.cells #[.int .i64 (s.P ((s.np - 1) * 5)), .int .i64 (s.P ((s.np - 1) * 5 + 1)), .int .i64 (s.P ((s.np - 1) * 5 + 2)), .int .i64 (s.P ((s.np - 1) * 5 + 3)), .int .i64 (s.P ((s.np - 1) * 5 + 4))] 76)).heap.size := lt_of_heap hN2
                have hO2 := own_below hO1 hb2
                have neN2 : (y0.heap.size + 1) ≠ y0.heap.size := by omega
                have lb2 : wy.heap.size + 1 ≤ ((y0.alloc (.cells #[] 76)).alloc (.cells #[.int .i64 (s.P ((s.np - 1) * 5)), .int .i64 (s.P ((s.np - 1) * 5 + 1)), .int .i64 (s.P ((s.np - 1) * 5 + 2)), .int .i64 (s.P ((s.np - 1) * 5 + 3)), .int .i64 (s.P ((s.np - 1) * 5 + 4))] 76)).heap.size := Nat.le_trans lb1 hb2.size
                refine hK.out _ _ (fun k hk => (hb2.block k (Nat.lt_of_lt_of_le hk hz1)).trans (hS1 k hk)) (fun hS2 => ?_)
                clear hK K
                refine wpAnyH_ready (rs := [3]) (by kernel_rfl) (by simp) ?_
                refine AllReadyH.cons rfl (fun K hK => ?_) AllReadyH.nil
                have hnews3 : ∀ j u, (fl 5 s.P s.np)[j]? = some u → ((y0.alloc (.cells #[] 76)).alloc (.cells #[.int .i64 (s.P ((s.np - 1) * 5)), .int .i64 (s.P ((s.np - 1) * 5 + 1)), .int .i64 (s.P ((s.np - 1) * 5 + 2)), .int .i64 (s.P ((s.np - 1) * 5 + 3)), .int .i64 (s.P ((s.np - 1) * 5 + 4))] 76)).cell? ((⟨b4, off4, none⟩ : Addr).add j) = some u := by
                  intro j u hj
                  have hj5 : j < s.np * 5 := by
                    rcases Nat.lt_or_ge j (s.np * 5) with h' | h'
                    · exact h'
                    · rw [List.getElem?_eq_none (by simp [fl]; omega)] at hj; cases hj
                  rw [fl_at 5 s.P s.np j hj5] at hj
                  cases hj
                  rw [Addr.add_mid]
                  exact (World.cell?_of_block (a := ⟨b4, off4 + j, none⟩) (hS2 b4 hb4)).trans (hpc j hj5)
                refine step_append_lies _ rfl _ _ 45 rfl (wy.heap.size + 1) 76 ip (.agg #[.int .i64 0, .int .i64 0, .int .i64 0, .int .i64 0, .int .i64 0]) 5 40 Try.underlying45 hip hz0p hz1p hz2p rfl (by decide) _ _ _ rfl hO2 ⟨b4, off4, none⟩ s.np a1.pc (fl 5 s.P s.np) rfl (by simp [fl]) hnews3 (fl_one 5 s.P s.np) hnp0 (by unfold maxLen; omega) (by omega) lb2 _ rfl ?_
                intro g3 cg3 u3 ho3 hg3 hk3 hlx3
                have hz3 : w3.heap.size ≤ u3.heap.size := Nat.le_trans hz2 hg3.size
                have HB3 := HB2.grown hg3 HB2.size (fun q hq => by have := (hO2.lt q hq).1; omega)
                have HQ3 := (hg3.block wy.heap.size lq2 (fun e => by have := (hO2.lt _ e.symm).1; omega)).trans HQ2
                have lq3 := Nat.lt_of_lt_of_le lq2 hg3.size
                have lb3 : wy.heap.size + 1 ≤ u3.heap.size := Nat.le_trans lb2 hg3.size
                rw [Nat.zero_add, List.nil_append] at ho3
                simp only [Nat.zero_add]
                have hN3 := (hg3.block _ lN2 (fun e => neN2 (Option.some.inj e))).trans hN2
                have lN3 := Nat.lt_of_lt_of_le lN2 hg3.size
                refine hK.out _ _ (fun k hk => (hg3.block k (Nat.lt_of_lt_of_le hk hz2) (fun e => by have := (hO2.lt _ e.symm).1; have := hlyy; omega)).trans (hS2 k hk)) (fun hS3 => ?_)
                clear hK K
                refine wpAnyH_ready (rs := [11]) (by kernel_rfl) (by simp) ?_
                refine AllReadyH.cons rfl (fun K hK => ?_) AllReadyH.nil
                have hnews4 := World.news_of_block hN3
                refine step_append_lies _ rfl _ _ 45 rfl (wy.heap.size + 1) 76 ip (.agg #[.int .i64 0, .int .i64 0, .int .i64 0, .int .i64 0, .int .i64 0]) 5 40 Try.underlying45 hip hz0p hz1p hz2p rfl (by decide) _ _ _ rfl ho3 ⟨(y0.heap.size + 1), 0, none⟩ 1 1 [.int .i64 (s.P ((s.np - 1) * 5)), .int .i64 (s.P ((s.np - 1) * 5 + 1)), .int .i64 (s.P ((s.np - 1) * 5 + 2)), .int .i64 (s.P ((s.np - 1) * 5 + 3)), .int .i64 (s.P ((s.np - 1) * 5 + 4))] rfl rfl hnews4 (by intro u hu; simp at hu; rcases hu with rfl | rfl | rfl | rfl | rfl <;> rfl) (by omega) (by unfold maxLen; omega) (by omega) lb3 _ rfl ?_
                intro g4 cg4 u4 ho4 hg4 hk4 hlx4
                have hz4 : w3.heap.size ≤ u4.heap.size := Nat.le_trans hz3 hg4.size
                have HB4 := HB3.grown hg4 HB3.size (fun q hq => by have := (ho3.lt q hq).1; omega)
                have HQ4 := (hg4.block wy.heap.size lq3 (fun e => by have := (ho3.lt _ e.symm).1; omega)).trans HQ3
                have lq4 := Nat.lt_of_lt_of_le lq3 hg4.size
                have lb4 : wy.heap.size + 1 ≤ u4.heap.size := Nat.le_trans lb3 hg4.size
                refine hK.out _ _ (fun k hk => (hg4.block k (Nat.lt_of_lt_of_le hk hz3) (fun e => by have := (ho3.lt _ e.symm).1; have := hlyy; omega)).trans (hS3 k hk)) (fun hS4 => ?_)
                clear hK K
                refine wpAnyH_take (i := 12) (v := ?_) rfl (by kernel_rfl) (by kernel_rfl) (by kernel_rfl) (fun _ _ _ h => h) (Or.inl ⟨by kernel_rfl, by (intro wz hSz; go_simp; try with_reducible rfl)⟩) hS4 ?_
                go_simp
                refine wpAnyH_ready (rs := [13]) (by kernel_rfl) (by simp) ?_
                refine AllReadyH.cons rfl (fun K hK => ?_) AllReadyH.nil
                have o13 : u4.cell? ⟨wy.heap.size, 13, none⟩ = some (.slice a1.pa s.np a1.pc) := by rw [cell_of_row _ _ 13 _ _ _ HQ4, HC1.out]; rfl
                have fz13 := frozen0 HQ4 13
                go_simp
                refine hK.out _ _ (fun k hk => (Below.heap_setCell _ _ _ _ (by have := hlyy; show k ≠ wy.heap.size; omega)).trans (hS4 k hk)) (fun hSz => ?_)
                clear hK K
                refine wpAnyH_done (by kernel_rfl) ?_ _
                have HZ9 := heap_setCell_same u4 wy.heap.size 13 _ _ (.slice (some ⟨g4, 0, none⟩) (s.np + 1) cg4) HQ4
                have HB9 : Below wy.heap.size wy (u4.setCell ⟨wy.heap.size, 13, none⟩ (.slice (some ⟨g4, 0, none⟩) (s.np + 1) cg4)) := HB4.setCell (Nat.le_refl _) _
                have HO9 := ownsRow_setCell_below ho4 (a := ⟨wy.heap.size, 13, none⟩) (by show wy.heap.size < wy.heap.size + 1; omega) (.slice (some ⟨g4, 0, none⟩) (s.np + 1) cg4)
                obtain ⟨wz, hwz⟩ : ∃ wz, u4.setCell ⟨wy.heap.size, 13, none⟩ (.slice (some ⟨g4, 0, none⟩) (s.np + 1) cg4) = wz := ⟨_, rfl⟩
                rw [hwz] at HZ9 HB9 HO9 ⊢
                have hSz2 : wz.heap[w1.heap.size]? = w3.heap[w1.heap.size]? := by rw [← hwz]; exact hSz _ hl3
                obtain ⟨az, haz⟩ : ∃ az : Pla, az = { a1 with pa := some ⟨g4, 0, none⟩, pc := cg4 } := ⟨_, rfl⟩
                obtain ⟨cz, hcz⟩ : ∃ cz : List Value, cz = c1.set 13 (.slice (some ⟨g4, 0, none⟩) (s.np + 1) cg4) := ⟨_, rfl⟩
                have HXz := Lib.hid (hSz2.trans HX3.out)
                have HYz := Lib.hid ((HB9.block _ hlyy).trans HYy.out)
                have HZz := Lib.hid (show wz.heap[wy.heap.size]? = some (.cells cz.toArray 50 (0, 0)) by rw [HZ9, hcz]; simp)
                have HTy := Lib.hid (HTy0.out.on HB9)
                have HSz := Lib.hid (HSy.out.on HB9)
                have HTz := Lib.hid (show ScAt wz (moreP s) az by rw [haz]; exact more_at HSz.out hp32 HO9 hnp0)
                have HWz := Lib.hid (HWy.out.trans (HB9.mono HWy.out.size))
                have hlyz := Nat.lt_of_lt_of_le hlyy HB9.size
                have hlzz : wy.heap.size < wz.heap.size := (lt_of_heap HZ9)
                have HCz := Lib.hid (show cz.toArray = SC (moreP s) az by rw [hcz, haz, HL1.out]; rfl)
                have HEz := Lib.hid (show SV (moreP s) az = .agg cz.toArray by rw [HCz.out])
                have HOKz := Lib.hid (more_ok HOK.out hnp0 hp32)
                clear hwz hcz haz HZ9 HO9 HB9
                go_upto_region 13 with fail
                have hwB := Lib.hid (heap_alloc_last wz (.cells c1.toArray 50))
                have hy4 : (wz.alloc (.cells c1.toArray 50)).cell? ⟨wz.heap.size, 4, none⟩ = some (.int .i64 s.fr) := by rw [cell_of_row _ _ 4 _ _ _ hwB.out, HC1.out]; rfl
                have hyf4 : (wz.alloc (.cells c1.toArray 50)).frozen? ⟨wz.heap.size, 4, none⟩ = false := frozen0 hwB.out 4
                obtain ⟨cw, hcw⟩ : ∃ cw, cw = c1.set 4 (.int .i64 1) := ⟨_, rfl⟩
                have HCW := Lib.hid (show cw.toArray = SC (oneF s) a1 by rw [hcw, HL1.out]; rfl)
                have HEw := Lib.hid (show SV (oneF s) a1 = .agg cw.toArray by rw [HCW.out])
                have HZy := Lib.hid (show (Try.prog.info? 50).map (·.size) = some cy.toArray.size by rw [HCy.out]; kernel_rfl)
                have HZz2 := Lib.hid (show (Try.prog.info? 50).map (·.size) = some cz.toArray.size by rw [HCz.out]; kernel_rfl)
                have HZw := Lib.hid (show (Try.prog.info? 50).map (·.size) = some cw.toArray.size by rw [HCW.out]; kernel_rfl)
                go_upto_region 15 with (first | (with_reducible refine wpList_load_row rfl 50 (.tmp 3) rfl w1.heap.size rfl 50 c1.toArray (0, 0) _ HXz.out Try.underlying50 rfl HZ1.out ?_) | (with_reducible refine Re.wpList_store_new rfl 50 (.tmp 10) (.tmp 67) rfl wz ZSc c1.toArray wz.heap.size rfl rfl rfl HZ1.out HZ2.out HZ3.out ?_))
                try rw [← hcw]
                have hbw := below_n1 wz (.cells cw.toArray 50)
                have hwW := Lib.hid (heap_alloc_last wz (.cells cw.toArray 50))
                obtain ⟨wv, hwv⟩ : ∃ wv, wz.alloc (.cells cw.toArray 50) = wv := ⟨_, rfl⟩
                rw [hwv] at hbw hwW ⊢
                have HY5 := Lib.hid ((hbw.block _ hlyz).trans HYz.out)
                have HZ5 := Lib.hid ((hbw.block _ hlzz).trans HZz.out)
                have HT5y := Lib.hid (HTy.out.on hbw)
                have HT5z := Lib.hid (HTz.out.on hbw)
                have HT5w := Lib.hid ((HSz.out.on hbw).one)
                have HW5 := Lib.hid (HWz.out.trans (hbw.mono HWz.out.size))
                have hl5y := Nat.lt_of_lt_of_le hlyz hbw.size
                have hl5z := Nat.lt_of_lt_of_le hlzz hbw.size
                have hl5w : wz.heap.size < wv.heap.size := by rw [← hwv]; simp
                clear hbw hwv hcw hwB hy4 hyf4
                go_wp2_with (first | (with_reducible refine wpList_load_row rfl 50 (.tmp 6) rfl w3.heap.size rfl 50 cy.toArray (0, 0) _ HY5.out Try.underlying50 rfl HZy.out ?_))
                rw [← HEy.out]
                refine (check_zero (less_ok HOK.out) _ HT5y.out).mono ?_
                rintro e w6 ⟨⟨p6, rfl⟩, hb6⟩
                rw [HEy.out]
                have HZ6 := Lib.hid ((hb6.block _ hl5z).trans HZ5.out)
                have HT6z := Lib.hid (HT5z.out.on hb6)
                have HW6 := Lib.hid (HW5.out.trans (hb6.mono HW5.out.size))
                have hwW6 := Lib.hid ((hb6.block _ hl5w).trans hwW.out)
                have HT6w := Lib.hid (HT5w.out.on hb6)
                have hl6z := Nat.lt_of_lt_of_le hl5z hb6.size
                have hl6w := Nat.lt_of_lt_of_le hl5w hb6.size
                clear hb6
                go_wp2_with (first | (with_reducible refine wpList_load_row rfl 50 (.tmp 8) rfl wy.heap.size rfl 50 cz.toArray (0, 0) _ HZ6.out Try.underlying50 rfl HZz2.out ?_))
                rw [← HEz.out]
                refine (check_zero HOKz.out _ HT6z.out).mono ?_
                rintro e w7 ⟨⟨p7, rfl⟩, hb7⟩
                rw [HEz.out]
                have HW7 := Lib.hid (HW6.out.trans (hb7.mono HW6.out.size))
                have hwW7 := Lib.hid ((hb7.block _ hl6w).trans hwW6.out)
                have HT7w := Lib.hid (HT6w.out.on hb7)
                clear hb7
                go_wp2_with (first | (with_reducible refine wpList_load_row rfl 50 (.tmp 10) rfl wz.heap.size rfl 50 cw.toArray (0, 0) _ hwW7.out Try.underlying50 rfl HZw.out ?_))
                rw [← HEw.out]
                refine (check_zero (oneF_ok HOK.out) _ HT7w.out).mono ?_
                rintro e w8 ⟨⟨p8, rfl⟩, hb8⟩
                rw [HEw.out]
                have HW8 := Lib.hid (HW7.out.trans (hb8.mono HW7.out.size))
                clear hb8
                go_wp2_with fail
                refine (awake_any _).mono ?_
                rintro e w9 ⟨rfl, hb9⟩
                have HW9 := Lib.hid (HW8.out.trans (hb9.mono HW8.out.size))
                go_wp2
                go_ret
                exact ⟨rfl, HW9.out⟩
            · skip
              go_simp
              have hb1 := below_n1 y0 (.cells #[.int .i64 (s.P ((s.np - 1) * 5)), .int .i64 (s.P ((s.np - 1) * 5 + 1)), .int .i64 (s.P ((s.np - 1) * 5 + 2)), .int .i64 (s.P ((s.np - 1) * 5 + 3)), .int .i64 (s.P ((s.np - 1) * 5 + 4))] 76)
              have hz1 : w3.heap.size ≤ (y0.alloc (.cells #[.int .i64 (s.P ((s.np - 1) * 5)), .int .i64 (s.P ((s.np - 1) * 5 + 1)), .int .i64 (s.P ((s.np - 1) * 5 + 2)), .int .i64 (s.P ((s.np - 1) * 5 + 3)), .int .i64 (s.P ((s.np - 1) * 5 + 4))] 76)).heap.size := Nat.le_trans hz0 hb1.size
              have HB1 := HB0.trans (hb1.mono HB0.size)
              have HQ1 := (hb1.block _ lq0).trans HQ0
              have lq1 := Nat.lt_of_lt_of_le lq0 hb1.size
              have hs1 : (y0.alloc (.cells #[.int .i64 (s.P ((s.np - 1) * 5)), .int .i64 (s.P ((s.np - 1) * 5 + 1)), .int .i64 (s.P ((s.np - 1) * 5 + 2)), .int .i64 (s.P ((s.np - 1) * 5 + 3)), .int .i64 (s.P ((s.np - 1) * 5 + 4))] 76)).heap.size = y0.heap.size + 1 := by rw [World.size_alloc]
              have hN1 : (y0.alloc (.cells #[.int .i64 (s.P ((s.np - 1) * 5)), .int .i64 (s.P ((s.np - 1) * 5 + 1)), .int .i64 (s.P ((s.np - 1) * 5 + 2)), .int .i64 (s.P ((s.np - 1) * 5 + 3)), .int .i64 (s.P ((s.np - 1) * 5 + 4))] 76)).heap[y0.heap.size]? = some (.cells #[.int .i64 (s.P ((s.np - 1) * 5)), .int .i64 (s.P ((s.np - 1) * 5 + 1)), .int .i64 (s.P ((s.np - 1) * 5 + 2)), .int .i64 (s.P ((s.np - 1) * 5 + 3)), .int .i64 (s.P ((s.np - 1) * 5 + 4))] 76 (0, 0)) := by have h := heap_alloc_last y0 (.cells #[.int .i64 (s.P ((s.np - 1) * 5)), .int .i64 (s.P ((s.np - 1) * 5 + 1)), .int .i64 (s.P ((s.np - 1) * 5 + 2)), .int .i64 (s.P ((s.np - 1) * 5 + 3)), .int .i64 (s.P ((s.np - 1) * 5 + 4))] 76); exact h
              have lN1 : y0.heap.size < (y0.alloc (.cells #[.int .i64 (s.P ((s.np - 1) * 5)), .int .i64 (s.P ((s.np - 1) * 5 + 1)), .int .i64 (s.P ((s.np - 1) * 5 + 2)), .int .i64 (s.P ((s.np - 1) * 5 + 3)), .int .i64 (s.P ((s.np - 1) * 5 + 4))] 76)).heap.size := lt_of_heap hN1
              have lb1 : wy.heap.size + 1 ≤ (y0.alloc (.cells #[.int .i64 (s.P ((s.np - 1) * 5)), .int .i64 (s.P ((s.np - 1) * 5 + 1)), .int .i64 (s.P ((s.np - 1) * 5 + 2)), .int .i64 (s.P ((s.np - 1) * 5 + 3)), .int .i64 (s.P ((s.np - 1) * 5 + 4))] 76)).heap.size := Nat.le_trans lb0 hb1.size
              refine hK.out _ _ (fun k hk => (hb1.block k (Nat.lt_of_lt_of_le hk hz0)).trans (hS0 k hk)) (fun hS1 => ?_)
              clear hK K
              refine wpAnyH_ready (rs := [0]) (by kernel_rfl) (by simp) ?_
              refine AllReadyH.cons rfl (fun K hK => ?_) AllReadyH.nil
              go_simp
              have hb2 := below_n1 (y0.alloc (.cells #[.int .i64 (s.P ((s.np - 1) * 5)), .int .i64 (s.P ((s.np - 1) * 5 + 1)), .int .i64 (s.P ((s.np - 1) * 5 + 2)), .int .i64 (s.P ((s.np - 1) * 5 + 3)), .int .i64 (s.P ((s.np - 1) * 5 + 4))] 76)) (.cells #[] 76)
              have hz2 : w3.heap.size ≤ ((y0.alloc (.cells #[.int .i64 (s.P ((s.np - 1) * 5)), .int .i64 (s.P ((s.np - 1) * 5 + 1)), .int .i64 (s.P ((s.np - 1) * 5 + 2)), .int .i64 (s.P ((s.np - 1) * 5 + 3)), .int .i64 (s.P ((s.np - 1) * 5 + 4))] 76)).alloc (.cells #[] 76)).heap.size := Nat.le_trans hz1 hb2.size
              have HB2 := HB1.trans (hb2.mono HB1.size)
              have HQ2 := (hb2.block _ lq1).trans HQ1
              have lq2 := Nat.lt_of_lt_of_le lq1 hb2.size
              have hs2 : ((y0.alloc (.cells #[.int .i64 (s.P ((s.np - 1) * 5)), .int .i64 (s.P ((s.np - 1) * 5 + 1)), .int .i64 (s.P ((s.np - 1) * 5 + 2)), .int .i64 (s.P ((s.np - 1) * 5 + 3)), .int .i64 (s.P ((s.np - 1) * 5 + 4))] 76)).alloc (.cells #[] 76)).heap.size = (y0.alloc (.cells #[.int .i64 (s.P ((s.np - 1) * 5)), .int .i64 (s.P ((s.np - 1) * 5 + 1)), .int .i64 (s.P ((s.np - 1) * 5 + 2)), .int .i64 (s.P ((s.np - 1) * 5 + 3)), .int .i64 (s.P ((s.np - 1) * 5 + 4))] 76)).heap.size + 1 := by rw [World.size_alloc]
              have hO2 := World.ownsRow_lit (base := wy.heap.size + 1) (size := 5) (y0.alloc (.cells #[.int .i64 (s.P ((s.np - 1) * 5)), .int .i64 (s.P ((s.np - 1) * 5 + 1)), .int .i64 (s.P ((s.np - 1) * 5 + 2)), .int .i64 (s.P ((s.np - 1) * 5 + 3)), .int .i64 (s.P ((s.np - 1) * 5 + 4))] 76)) #[] 0 (e := 76) lb1 (by unfold maxLen; omega) rfl
              try rw [World.size_alloc] at hO2
              have hN2 := (hb2.block _ lN1).trans hN1
              have lN2 := Nat.lt_of_lt_of_le lN1 hb2.size
              have neN2 : y0.heap.size ≠ (y0.alloc (.cells #[.int .i64 (s.P ((s.np - 1) * 5)), .int .i64 (s.P ((s.np - 1) * 5 + 1)), .int .i64 (s.P ((s.np - 1) * 5 + 2)), .int .i64 (s.P ((s.np - 1) * 5 + 3)), .int .i64 (s.P ((s.np - 1) * 5 + 4))] 76)).heap.size := Nat.ne_of_lt lN1
              try rw [World.size_alloc] at neN2
              have lb2 : wy.heap.size + 1 ≤ ((y0.alloc (.cells #[.int .i64 (s.P ((s.np - 1) * 5)), .int .i64 (s.P ((s.np - 1) * 5 + 1)), .int .i64 (s.P ((s.np - 1) * 5 + 2)), .int .i64 (s.P ((s.np - 1) * 5 + 3)), .int .i64 (s.P ((s.np - 1) * 5 + 4))] 76)).alloc (.cells #[] 76)).heap.size := Nat.le_trans lb1 hb2.size
              refine hK.out _ _ (fun k hk => (hb2.block k (Nat.lt_of_lt_of_le hk hz1)).trans (hS1 k hk)) (fun hS2 => ?_)
              clear hK K
              refine wpAnyH_ready (rs := [3]) (by kernel_rfl) (by simp) ?_
              refine AllReadyH.cons rfl (fun K hK => ?_) AllReadyH.nil
              have hnews3 : ∀ j u, (fl 5 s.P s.np)[j]? = some u → ((y0.alloc (.cells #[.int .i64 (s.P ((s.np - 1) * 5)), .int .i64 (s.P ((s.np - 1) * 5 + 1)), .int .i64 (s.P ((s.np - 1) * 5 + 2)), .int .i64 (s.P ((s.np - 1) * 5 + 3)), .int .i64 (s.P ((s.np - 1) * 5 + 4))] 76)).alloc (.cells #[] 76)).cell? ((⟨b4, off4, none⟩ : Addr).add j) = some u := by
                intro j u hj
                have hj5 : j < s.np * 5 := by
                  rcases Nat.lt_or_ge j (s.np * 5) with h' | h'
                  · exact h'
                  · rw [List.getElem?_eq_none (by simp [fl]; omega)] at hj; cases hj
                rw [fl_at 5 s.P s.np j hj5] at hj
                cases hj
                rw [Addr.add_mid]
                exact (World.cell?_of_block (a := ⟨b4, off4 + j, none⟩) (hS2 b4 hb4)).trans (hpc j hj5)
              refine step_append_lies _ rfl _ _ 45 rfl (wy.heap.size + 1) 76 ip (.agg #[.int .i64 0, .int .i64 0, .int .i64 0, .int .i64 0, .int .i64 0]) 5 40 Try.underlying45 hip hz0p hz1p hz2p rfl (by decide) _ _ _ rfl hO2 ⟨b4, off4, none⟩ s.np a1.pc (fl 5 s.P s.np) rfl (by simp [fl]) hnews3 (fl_one 5 s.P s.np) hnp0 (by unfold maxLen; omega) (by omega) lb2 _ rfl ?_
              intro g3 cg3 u3 ho3 hg3 hk3 hlx3
              have hz3 : w3.heap.size ≤ u3.heap.size := Nat.le_trans hz2 hg3.size
              have HB3 := HB2.grown hg3 HB2.size (fun q hq => by have := (hO2.lt q hq).1; omega)
              have HQ3 := (hg3.block wy.heap.size lq2 (fun e => by have := (hO2.lt _ e.symm).1; omega)).trans HQ2
              have lq3 := Nat.lt_of_lt_of_le lq2 hg3.size
              have lb3 : wy.heap.size + 1 ≤ u3.heap.size := Nat.le_trans lb2 hg3.size
              rw [Nat.zero_add, List.nil_append] at ho3
              simp only [Nat.zero_add]
              have hN3 := (hg3.block _ lN2 (fun e => neN2 (Option.some.inj e))).trans hN2
              have lN3 := Nat.lt_of_lt_of_le lN2 hg3.size
              refine hK.out _ _ (fun k hk => (hg3.block k (Nat.lt_of_lt_of_le hk hz2) (fun e => by have := (hO2.lt _ e.symm).1; have := hlyy; omega)).trans (hS2 k hk)) (fun hS3 => ?_)
              clear hK K
              refine wpAnyH_ready (rs := [11]) (by kernel_rfl) (by simp) ?_
              refine AllReadyH.cons rfl (fun K hK => ?_) AllReadyH.nil
              have hnews4 := World.news_of_block hN3
              refine step_append_lies _ rfl _ _ 45 rfl (wy.heap.size + 1) 76 ip (.agg #[.int .i64 0, .int .i64 0, .int .i64 0, .int .i64 0, .int .i64 0]) 5 40 Try.underlying45 hip hz0p hz1p hz2p rfl (by decide) _ _ _ rfl ho3 ⟨y0.heap.size, 0, none⟩ 1 1 [.int .i64 (s.P ((s.np - 1) * 5)), .int .i64 (s.P ((s.np - 1) * 5 + 1)), .int .i64 (s.P ((s.np - 1) * 5 + 2)), .int .i64 (s.P ((s.np - 1) * 5 + 3)), .int .i64 (s.P ((s.np - 1) * 5 + 4))] rfl rfl hnews4 (by intro u hu; simp at hu; rcases hu with rfl | rfl | rfl | rfl | rfl <;> rfl) (by omega) (by unfold maxLen; omega) (by omega) lb3 _ rfl ?_
              intro g4 cg4 u4 ho4 hg4 hk4 hlx4
              have hz4 : w3.heap.size ≤ u4.heap.size := Nat.le_trans hz3 hg4.size
              have HB4 := HB3.grown hg4 HB3.size (fun q hq => by have := (ho3.lt q hq).1; omega)
              have HQ4 := (hg4.block wy.heap.size lq3 (fun e => by have := (ho3.lt _ e.symm).1; omega)).trans HQ3
              have lq4 := Nat.lt_of_lt_of_le lq3 hg4.size
              have lb4 : wy.heap.size + 1 ≤ u4.heap.size := Nat.le_trans lb3 hg4.size
              refine hK.out _ _ (fun k hk => (hg4.block k (Nat.lt_of_lt_of_le hk hz3) (fun e => by have := (ho3.lt _ e.symm).1; have := hlyy; omega)).trans (hS3 k hk)) (fun hS4 => ?_)
              clear hK K
              refine wpAnyH_take (i := 12) (v := ?_) rfl (by kernel_rfl) (by kernel_rfl) (by kernel_rfl) (fun _ _ _ h => h) (Or.inl ⟨by kernel_rfl, by (intro wz hSz; go_simp; try with_reducible rfl)⟩) hS4 ?_
              go_simp
              refine wpAnyH_ready (rs := [13]) (by kernel_rfl) (by simp) ?_
              refine AllReadyH.cons rfl (fun K hK => ?_) AllReadyH.nil
              have o13 : u4.cell? ⟨wy.heap.size, 13, none⟩ = some (.slice a1.pa s.np a1.pc) := by rw [cell_of_row _ _ 13 _ _ _ HQ4, HC1.out]; rfl
              have fz13 := frozen0 HQ4 13
              go_simp
              refine hK.out _ _ (fun k hk => (Below.heap_setCell _ _ _ _ (by have := hlyy; show k ≠ wy.heap.size; omega)).trans (hS4 k hk)) (fun hSz => ?_)
              clear hK K
              refine wpAnyH_done (by kernel_rfl) ?_ _
              have HZ9 := heap_setCell_same u4 wy.heap.size 13 _ _ (.slice (some ⟨g4, 0, none⟩) (s.np + 1) cg4) HQ4
              have HB9 : Below wy.heap.size wy (u4.setCell ⟨wy.heap.size, 13, none⟩ (.slice (some ⟨g4, 0, none⟩) (s.np + 1) cg4)) := HB4.setCell (Nat.le_refl _) _
              have HO9 := ownsRow_setCell_below ho4 (a := ⟨wy.heap.size, 13, none⟩) (by show wy.heap.size < wy.heap.size + 1; omega) (.slice (some ⟨g4, 0, none⟩) (s.np + 1) cg4)
              obtain ⟨wz, hwz⟩ : ∃ wz, u4.setCell ⟨wy.heap.size, 13, none⟩ (.slice (some ⟨g4, 0, none⟩) (s.np + 1) cg4) = wz := ⟨_, rfl⟩
              rw [hwz] at HZ9 HB9 HO9 ⊢
              have hSz2 : wz.heap[w1.heap.size]? = w3.heap[w1.heap.size]? := by rw [← hwz]; exact hSz _ hl3
              obtain ⟨az, haz⟩ : ∃ az : Pla, az = { a1 with pa := some ⟨g4, 0, none⟩, pc := cg4 } := ⟨_, rfl⟩
              obtain ⟨cz, hcz⟩ : ∃ cz : List Value, cz = c1.set 13 (.slice (some ⟨g4, 0, none⟩) (s.np + 1) cg4) := ⟨_, rfl⟩
              have HXz := Lib.hid (hSz2.trans HX3.out)
              have HYz := Lib.hid ((HB9.block _ hlyy).trans HYy.out)
              have HZz := Lib.hid (show wz.heap[wy.heap.size]? = some (.cells cz.toArray 50 (0, 0)) by rw [HZ9, hcz]; simp)
              have HTy := Lib.hid (HTy0.out.on HB9)
              have HSz := Lib.hid (HSy.out.on HB9)
              have HTz := Lib.hid (show ScAt wz (moreP s) az by rw [haz]; exact more_at HSz.out hp32 HO9 hnp0)
              have HWz := Lib.hid (HWy.out.trans (HB9.mono HWy.out.size))
              have hlyz := Nat.lt_of_lt_of_le hlyy HB9.size
              have hlzz : wy.heap.size < wz.heap.size := (lt_of_heap HZ9)
              have HCz := Lib.hid (show cz.toArray = SC (moreP s) az by rw [hcz, haz, HL1.out]; rfl)
              have HEz := Lib.hid (show SV (moreP s) az = .agg cz.toArray by rw [HCz.out])
              have HOKz := Lib.hid (more_ok HOK.out hnp0 hp32)
              clear hwz hcz haz HZ9 HO9 HB9
              go_upto_region 13 with fail
              have hwB := Lib.hid (heap_alloc_last wz (.cells c1.toArray 50))
              have hy4 : (wz.alloc (.cells c1.toArray 50)).cell? ⟨wz.heap.size, 4, none⟩ = some (.int .i64 s.fr) := by rw [cell_of_row _ _ 4 _ _ _ hwB.out, HC1.out]; rfl
              have hyf4 : (wz.alloc (.cells c1.toArray 50)).frozen? ⟨wz.heap.size, 4, none⟩ = false := frozen0 hwB.out 4
              obtain ⟨cw, hcw⟩ : ∃ cw, cw = c1.set 4 (.int .i64 1) := ⟨_, rfl⟩
              have HCW := Lib.hid (show cw.toArray = SC (oneF s) a1 by rw [hcw, HL1.out]; rfl)
              have HEw := Lib.hid (show SV (oneF s) a1 = .agg cw.toArray by rw [HCW.out])
              have HZy := Lib.hid (show (Try.prog.info? 50).map (·.size) = some cy.toArray.size by rw [HCy.out]; kernel_rfl)
              have HZz2 := Lib.hid (show (Try.prog.info? 50).map (·.size) = some cz.toArray.size by rw [HCz.out]; kernel_rfl)
              have HZw := Lib.hid (show (Try.prog.info? 50).map (·.size) = some cw.toArray.size by rw [HCW.out]; kernel_rfl)
              go_upto_region 15 with (first | (with_reducible refine wpList_load_row rfl 50 (.tmp 3) rfl w1.heap.size rfl 50 c1.toArray (0, 0) _ HXz.out Try.underlying50 rfl HZ1.out ?_) | (with_reducible refine Re.wpList_store_new rfl 50 (.tmp 10) (.tmp 67) rfl wz ZSc c1.toArray wz.heap.size rfl rfl rfl HZ1.out HZ2.out HZ3.out ?_))
              try rw [← hcw]
              have hbw := below_n1 wz (.cells cw.toArray 50)
              have hwW := Lib.hid (heap_alloc_last wz (.cells cw.toArray 50))
              obtain ⟨wv, hwv⟩ : ∃ wv, wz.alloc (.cells cw.toArray 50) = wv := ⟨_, rfl⟩
              rw [hwv] at hbw hwW ⊢
              have HY5 := Lib.hid ((hbw.block _ hlyz).trans HYz.out)
              have HZ5 := Lib.hid ((hbw.block _ hlzz).trans HZz.out)
              have HT5y := Lib.hid (HTy.out.on hbw)
              have HT5z := Lib.hid (HTz.out.on hbw)
              have HT5w := Lib.hid ((HSz.out.on hbw).one)
              have HW5 := Lib.hid (HWz.out.trans (hbw.mono HWz.out.size))
              have hl5y := Nat.lt_of_lt_of_le hlyz hbw.size
              have hl5z := Nat.lt_of_lt_of_le hlzz hbw.size
              have hl5w : wz.heap.size < wv.heap.size := by rw [← hwv]; simp
              clear hbw hwv hcw hwB hy4 hyf4
              go_wp2_with (first | (with_reducible refine wpList_load_row rfl 50 (.tmp 6) rfl w3.heap.size rfl 50 cy.toArray (0, 0) _ HY5.out Try.underlying50 rfl HZy.out ?_))
              rw [← HEy.out]
              refine (check_zero (less_ok HOK.out) _ HT5y.out).mono ?_
              rintro e w6 ⟨⟨p6, rfl⟩, hb6⟩
              rw [HEy.out]
              have HZ6 := Lib.hid ((hb6.block _ hl5z).trans HZ5.out)
              have HT6z := Lib.hid (HT5z.out.on hb6)
              have HW6 := Lib.hid (HW5.out.trans (hb6.mono HW5.out.size))
              have hwW6 := Lib.hid ((hb6.block _ hl5w).trans hwW.out)
              have HT6w := Lib.hid (HT5w.out.on hb6)
              have hl6z := Nat.lt_of_lt_of_le hl5z hb6.size
              have hl6w := Nat.lt_of_lt_of_le hl5w hb6.size
              clear hb6
              go_wp2_with (first | (with_reducible refine wpList_load_row rfl 50 (.tmp 8) rfl wy.heap.size rfl 50 cz.toArray (0, 0) _ HZ6.out Try.underlying50 rfl HZz2.out ?_))
              rw [← HEz.out]
              refine (check_zero HOKz.out _ HT6z.out).mono ?_
              rintro e w7 ⟨⟨p7, rfl⟩, hb7⟩
              rw [HEz.out]
              have HW7 := Lib.hid (HW6.out.trans (hb7.mono HW6.out.size))
              have hwW7 := Lib.hid ((hb7.block _ hl6w).trans hwW6.out)
              have HT7w := Lib.hid (HT6w.out.on hb7)
              clear hb7
              go_wp2_with (first | (with_reducible refine wpList_load_row rfl 50 (.tmp 10) rfl wz.heap.size rfl 50 cw.toArray (0, 0) _ hwW7.out Try.underlying50 rfl HZw.out ?_))
              rw [← HEw.out]
              refine (check_zero (oneF_ok HOK.out) _ HT7w.out).mono ?_
              rintro e w8 ⟨⟨p8, rfl⟩, hb8⟩
              rw [HEw.out]
              have HW8 := Lib.hid (HW7.out.trans (hb8.mono HW7.out.size))
              clear hb8
              go_wp2_with fail
              refine (awake_any _).mono ?_
              rintro e w9 ⟨rfl, hb9⟩
              have HW9 := Lib.hid (HW8.out.trans (hb9.mono HW8.out.size))
              go_wp2
              go_ret
              exact ⟨rfl, HW9.out⟩
          · have hp32' : ¬ (s.np : Int) < 32 := by omega
            go_upto_region 13 with (first | (with_reducible refine wpList_load_row rfl 50 (.tmp 3) rfl w1.heap.size rfl 50 c1.toArray (0, 0) _ HXy.out Try.underlying50 rfl HZ1.out ?_) | (with_reducible refine Re.wpList_store_new rfl 50 (.tmp 8) (.tmp 44) rfl wy ZSc c1.toArray wy.heap.size rfl rfl rfl HZ1.out HZ2.out HZ3.out ?_))
            have hbz := below_n1 wy (.cells c1.toArray 50)
            have HZz := Lib.hid (heap_alloc_last wy (.cells c1.toArray 50))
            obtain ⟨wz, hwz⟩ : ∃ wz, wy.alloc (.cells c1.toArray 50) = wz := ⟨_, rfl⟩
            rw [hwz] at hbz HZz ⊢
            have HXz := Lib.hid ((hbz.block _ hlxy).trans HXy.out)
            have HYz := Lib.hid ((hbz.block _ hlyy).trans HYy.out)
            have HTy := Lib.hid (HTy0.out.on hbz)
            have HTz := Lib.hid (HSy.out.on hbz)
            have HSz := HTz
            have HWz := Lib.hid (HWy.out.trans (hbz.mono HWy.out.size))
            have hlyz := Nat.lt_of_lt_of_le hlyy hbz.size
            have hlzz : wy.heap.size < wz.heap.size := by rw [← hwz]; simp
            obtain ⟨cz, hcz⟩ : ∃ cz : List Value, cz = c1 := ⟨_, rfl⟩
            rw [← hcz] at HZz
            have HCz := Lib.hid (show cz.toArray = SC s a1 by rw [hcz]; exact HC1.out)
            have HEz := Lib.hid (show SV s a1 = .agg cz.toArray by rw [HCz.out])
            have HOKz := HOK
            clear hbz hwz hcz
            have hwB := Lib.hid (heap_alloc_last wz (.cells c1.toArray 50))
            have hy4 : (wz.alloc (.cells c1.toArray 50)).cell? ⟨wz.heap.size, 4, none⟩ = some (.int .i64 s.fr) := by rw [cell_of_row _ _ 4 _ _ _ hwB.out, HC1.out]; rfl
            have hyf4 : (wz.alloc (.cells c1.toArray 50)).frozen? ⟨wz.heap.size, 4, none⟩ = false := frozen0 hwB.out 4
            obtain ⟨cw, hcw⟩ : ∃ cw, cw = c1.set 4 (.int .i64 1) := ⟨_, rfl⟩
            have HCW := Lib.hid (show cw.toArray = SC (oneF s) a1 by rw [hcw, HL1.out]; rfl)
            have HEw := Lib.hid (show SV (oneF s) a1 = .agg cw.toArray by rw [HCW.out])
            have HZy := Lib.hid (show (Try.prog.info? 50).map (·.size) = some cy.toArray.size by rw [HCy.out]; kernel_rfl)
            have HZz2 := Lib.hid (show (Try.prog.info? 50).map (·.size) = some cz.toArray.size by rw [HCz.out]; kernel_rfl)
            have HZw := Lib.hid (show (Try.prog.info? 50).map (·.size) = some cw.toArray.size by rw [HCW.out]; kernel_rfl)
            go_upto_region 15 with (first | (with_reducible refine wpList_load_row rfl 50 (.tmp 3) rfl w1.heap.size rfl 50 c1.toArray (0, 0) _ HXz.out Try.underlying50 rfl HZ1.out ?_) | (with_reducible refine Re.wpList_store_new rfl 50 (.tmp 10) (.tmp 67) rfl wz ZSc c1.toArray wz.heap.size rfl rfl rfl HZ1.out HZ2.out HZ3.out ?_))
            try rw [← hcw]
            have hbw := below_n1 wz (.cells cw.toArray 50)
            have hwW := Lib.hid (heap_alloc_last wz (.cells cw.toArray 50))
            obtain ⟨wv, hwv⟩ : ∃ wv, wz.alloc (.cells cw.toArray 50) = wv := ⟨_, rfl⟩
            rw [hwv] at hbw hwW ⊢
            have HY5 := Lib.hid ((hbw.block _ hlyz).trans HYz.out)
            have HZ5 := Lib.hid ((hbw.block _ hlzz).trans HZz.out)
            have HT5y := Lib.hid (HTy.out.on hbw)
            have HT5z := Lib.hid (HTz.out.on hbw)
            have HT5w := Lib.hid ((HSz.out.on hbw).one)
            have HW5 := Lib.hid (HWz.out.trans (hbw.mono HWz.out.size))
            have hl5y := Nat.lt_of_lt_of_le hlyz hbw.size
            have hl5z := Nat.lt_of_lt_of_le hlzz hbw.size
            have hl5w : wz.heap.size < wv.heap.size := by rw [← hwv]; simp
            clear hbw hwv hcw hwB hy4 hyf4
            go_wp2_with (first | (with_reducible refine wpList_load_row rfl 50 (.tmp 6) rfl w3.heap.size rfl 50 cy.toArray (0, 0) _ HY5.out Try.underlying50 rfl HZy.out ?_))
            rw [← HEy.out]
            refine (check_zero (less_ok HOK.out) _ HT5y.out).mono ?_
            rintro e w6 ⟨⟨p6, rfl⟩, hb6⟩
            rw [HEy.out]
            have HZ6 := Lib.hid ((hb6.block _ hl5z).trans HZ5.out)
            have HT6z := Lib.hid (HT5z.out.on hb6)
            have HW6 := Lib.hid (HW5.out.trans (hb6.mono HW5.out.size))
            have hwW6 := Lib.hid ((hb6.block _ hl5w).trans hwW.out)
            have HT6w := Lib.hid (HT5w.out.on hb6)
            have hl6z := Nat.lt_of_lt_of_le hl5z hb6.size
            have hl6w := Nat.lt_of_lt_of_le hl5w hb6.size
            clear hb6
            go_wp2_with (first | (with_reducible refine wpList_load_row rfl 50 (.tmp 8) rfl wy.heap.size rfl 50 cz.toArray (0, 0) _ HZ6.out Try.underlying50 rfl HZz2.out ?_))
            rw [← HEz.out]
            refine (check_zero HOKz.out _ HT6z.out).mono ?_
            rintro e w7 ⟨⟨p7, rfl⟩, hb7⟩
            rw [HEz.out]
            have HW7 := Lib.hid (HW6.out.trans (hb7.mono HW6.out.size))
            have hwW7 := Lib.hid ((hb7.block _ hl6w).trans hwW6.out)
            have HT7w := Lib.hid (HT6w.out.on hb7)
            clear hb7
            go_wp2_with (first | (with_reducible refine wpList_load_row rfl 50 (.tmp 10) rfl wz.heap.size rfl 50 cw.toArray (0, 0) _ hwW7.out Try.underlying50 rfl HZw.out ?_))
            rw [← HEw.out]
            refine (check_zero (oneF_ok HOK.out) _ HT7w.out).mono ?_
            rintro e w8 ⟨⟨p8, rfl⟩, hb8⟩
            rw [HEw.out]
            have HW8 := Lib.hid (HW7.out.trans (hb8.mono HW7.out.size))
            clear hb8
            go_wp2_with fail
            refine (awake_any _).mono ?_
            rintro e w9 ⟨rfl, hb9⟩
            have HW9 := Lib.hid (HW8.out.trans (hb9.mono HW8.out.size))
            go_wp2
            go_ret
            exact ⟨rfl, HW9.out⟩
      · have hn' : (0 : Int) < s.ns := by omega
        have hn1 : (s.ns : Int) - 1 ≤ a1.sc := by omega
        have hn2 : (0 : Int) ≤ (s.ns : Int) - 1 := by omega
        have hn3 : ((s.ns : Int) - 1).toNat = s.ns - 1 := by omega
        obtain ⟨b5, off5, hba5, hb5⟩ : ∃ b off, a1.sa = some ⟨b, off, none⟩ ∧ b < w3.heap.size := by
          obtain ⟨-, h9 | ⟨b, off, e, hb, -⟩⟩ := HS3.out.sh
          · omega
          · exact ⟨b, off, e, hb⟩
        rw [hba5] at d16
        have hy16 : (w3.alloc (.cells c1.toArray 50)).cell? ⟨w3.heap.size, 16, none⟩ = some (.slice (some ⟨b5, off5, none⟩) s.ns a1.sc) := by rw [cell_of_row _ _ 16 _ _ _ hYB0.out, HC1.out, ← hba5]; rfl
        have hyf : (w3.alloc (.cells c1.toArray 50)).frozen? ⟨w3.heap.size, 16, none⟩ = false := frozen0 hYB0.out 16
        go_upto_region 9 with (first | (with_reducible refine wpList_load_row rfl 50 (.tmp 3) rfl w1.heap.size rfl 50 c1.toArray (0, 0) _ HX3.out Try.underlying50 rfl HZ1.out ?_) | (with_reducible refine Re.wpList_store_new rfl 50 (.tmp 6) (.tmp 32) rfl w3 ZSc c1.toArray w3.heap.size rfl rfl rfl HZ1.out HZ2.out HZ3.out ?_))
        obtain ⟨ay, hay⟩ : ∃ ay, ay = a1 := ⟨_, rfl⟩
        obtain ⟨cy, hcy⟩ : ∃ cy : List Value, cy = c1.set 16 (.slice (some ⟨b5, off5, none⟩) (s.ns - 1) a1.sc) := ⟨_, rfl⟩
        have HCy := Lib.hid (show cy.toArray = SC (lessS s) ay by rw [hcy, hay, HL1.out, ← hba5]; rfl)
        have HTl := Lib.hid (show ScAt w3 (lessS s) ay by rw [hay]; exact HS3.out.lessS a1.sc)
        rw [← hcy]
        clear hcy hay hy16 hyf
        have hby := below_n1 w3 (.cells cy.toArray 50)
        have HYy := Lib.hid (heap_alloc_last w3 (.cells cy.toArray 50))
        obtain ⟨wy, hwy⟩ : ∃ wy, w3.alloc (.cells cy.toArray 50) = wy := ⟨_, rfl⟩
        rw [hwy] at hby HYy ⊢
        have HXy := Lib.hid ((hby.block _ hl3).trans HX3.out)
        have HSy := Lib.hid (HS3.out.on hby)
        have HTy0 := Lib.hid (HTl.out.on hby)
        have HWy := Lib.hid (HW3.out.trans (hby.mono HW3.out.size))
        have hlxy := Nat.lt_of_lt_of_le hl3 hby.size
        have hlyy : w3.heap.size < wy.heap.size := by rw [← hwy]; simp
        have HEy := Lib.hid (show SV (lessS s) ay = .agg cy.toArray by rw [HCy.out])
        have d13y := (World.cell?_of_block (a := ⟨w1.heap.size, 13, none⟩) (hby.block _ hl3)).trans d13
        have hLow0 := hby.block
        clear hby hwy HTl
        by_cases hp : s.np = 0
        · have hp' : (s.np : Int) = 0 := by omega
          go_upto_region 13 with (first | (with_reducible refine wpList_load_row rfl 50 (.tmp 3) rfl w1.heap.size rfl 50 c1.toArray (0, 0) _ HXy.out Try.underlying50 rfl HZ1.out ?_) | (with_reducible refine Re.wpList_store_new rfl 50 (.tmp 8) (.tmp 44) rfl wy ZSc c1.toArray wy.heap.size rfl rfl rfl HZ1.out HZ2.out HZ3.out ?_))
          have hbz := below_n1 wy (.cells c1.toArray 50)
          have HZz := Lib.hid (heap_alloc_last wy (.cells c1.toArray 50))
          obtain ⟨wz, hwz⟩ : ∃ wz, wy.alloc (.cells c1.toArray 50) = wz := ⟨_, rfl⟩
          rw [hwz] at hbz HZz ⊢
          have HXz := Lib.hid ((hbz.block _ hlxy).trans HXy.out)
          have HYz := Lib.hid ((hbz.block _ hlyy).trans HYy.out)
          have HTy := Lib.hid (HTy0.out.on hbz)
          have HTz := Lib.hid (HSy.out.on hbz)
          have HSz := HTz
          have HWz := Lib.hid (HWy.out.trans (hbz.mono HWy.out.size))
          have hlyz := Nat.lt_of_lt_of_le hlyy hbz.size
          have hlzz : wy.heap.size < wz.heap.size := by rw [← hwz]; simp
          obtain ⟨cz, hcz⟩ : ∃ cz : List Value, cz = c1 := ⟨_, rfl⟩
          rw [← hcz] at HZz
          have HCz := Lib.hid (show cz.toArray = SC s a1 by rw [hcz]; exact HC1.out)
          have HEz := Lib.hid (show SV s a1 = .agg cz.toArray by rw [HCz.out])
          have HOKz := HOK
          clear hbz hwz hcz
          have hwB := Lib.hid (heap_alloc_last wz (.cells c1.toArray 50))
          have hy4 : (wz.alloc (.cells c1.toArray 50)).cell? ⟨wz.heap.size, 4, none⟩ = some (.int .i64 s.fr) := by rw [cell_of_row _ _ 4 _ _ _ hwB.out, HC1.out]; rfl
          have hyf4 : (wz.alloc (.cells c1.toArray 50)).frozen? ⟨wz.heap.size, 4, none⟩ = false := frozen0 hwB.out 4
          obtain ⟨cw, hcw⟩ : ∃ cw, cw = c1.set 4 (.int .i64 1) := ⟨_, rfl⟩
          have HCW := Lib.hid (show cw.toArray = SC (oneF s) a1 by rw [hcw, HL1.out]; rfl)
          have HEw := Lib.hid (show SV (oneF s) a1 = .agg cw.toArray by rw [HCW.out])
          have HZy := Lib.hid (show (Try.prog.info? 50).map (·.size) = some cy.toArray.size by rw [HCy.out]; kernel_rfl)
          have HZz2 := Lib.hid (show (Try.prog.info? 50).map (·.size) = some cz.toArray.size by rw [HCz.out]; kernel_rfl)
          have HZw := Lib.hid (show (Try.prog.info? 50).map (·.size) = some cw.toArray.size by rw [HCW.out]; kernel_rfl)
          go_upto_region 15 with (first | (with_reducible refine wpList_load_row rfl 50 (.tmp 3) rfl w1.heap.size rfl 50 c1.toArray (0, 0) _ HXz.out Try.underlying50 rfl HZ1.out ?_) | (with_reducible refine Re.wpList_store_new rfl 50 (.tmp 10) (.tmp 67) rfl wz ZSc c1.toArray wz.heap.size rfl rfl rfl HZ1.out HZ2.out HZ3.out ?_))
          try rw [← hcw]
          have hbw := below_n1 wz (.cells cw.toArray 50)
          have hwW := Lib.hid (heap_alloc_last wz (.cells cw.toArray 50))
          obtain ⟨wv, hwv⟩ : ∃ wv, wz.alloc (.cells cw.toArray 50) = wv := ⟨_, rfl⟩
          rw [hwv] at hbw hwW ⊢
          have HY5 := Lib.hid ((hbw.block _ hlyz).trans HYz.out)
          have HZ5 := Lib.hid ((hbw.block _ hlzz).trans HZz.out)
          have HT5y := Lib.hid (HTy.out.on hbw)
          have HT5z := Lib.hid (HTz.out.on hbw)
          have HT5w := Lib.hid ((HSz.out.on hbw).one)
          have HW5 := Lib.hid (HWz.out.trans (hbw.mono HWz.out.size))
          have hl5y := Nat.lt_of_lt_of_le hlyz hbw.size
          have hl5z := Nat.lt_of_lt_of_le hlzz hbw.size
          have hl5w : wz.heap.size < wv.heap.size := by rw [← hwv]; simp
          clear hbw hwv hcw hwB hy4 hyf4
          go_wp2_with (first | (with_reducible refine wpList_load_row rfl 50 (.tmp 6) rfl w3.heap.size rfl 50 cy.toArray (0, 0) _ HY5.out Try.underlying50 rfl HZy.out ?_))
          rw [← HEy.out]
          refine (check_zero (less_ok HOK.out) _ HT5y.out).mono ?_
          rintro e w6 ⟨⟨p6, rfl⟩, hb6⟩
          rw [HEy.out]
          have HZ6 := Lib.hid ((hb6.block _ hl5z).trans HZ5.out)
          have HT6z := Lib.hid (HT5z.out.on hb6)
          have HW6 := Lib.hid (HW5.out.trans (hb6.mono HW5.out.size))
          have hwW6 := Lib.hid ((hb6.block _ hl5w).trans hwW.out)
          have HT6w := Lib.hid (HT5w.out.on hb6)
          have hl6z := Nat.lt_of_lt_of_le hl5z hb6.size
          have hl6w := Nat.lt_of_lt_of_le hl5w hb6.size
          clear hb6
          go_wp2_with (first | (with_reducible refine wpList_load_row rfl 50 (.tmp 8) rfl wy.heap.size rfl 50 cz.toArray (0, 0) _ HZ6.out Try.underlying50 rfl HZz2.out ?_))
          rw [← HEz.out]
          refine (check_zero HOKz.out _ HT6z.out).mono ?_
          rintro e w7 ⟨⟨p7, rfl⟩, hb7⟩
          rw [HEz.out]
          have HW7 := Lib.hid (HW6.out.trans (hb7.mono HW6.out.size))
          have hwW7 := Lib.hid ((hb7.block _ hl6w).trans hwW6.out)
          have HT7w := Lib.hid (HT6w.out.on hb7)
          clear hb7
          go_wp2_with (first | (with_reducible refine wpList_load_row rfl 50 (.tmp 10) rfl wz.heap.size rfl 50 cw.toArray (0, 0) _ hwW7.out Try.underlying50 rfl HZw.out ?_))
          rw [← HEw.out]
          refine (check_zero (oneF_ok HOK.out) _ HT7w.out).mono ?_
          rintro e w8 ⟨⟨p8, rfl⟩, hb8⟩
          rw [HEw.out]
          have HW8 := Lib.hid (HW7.out.trans (hb8.mono HW7.out.size))
          clear hb8
          go_wp2_with fail
          refine (awake_any _).mono ?_
          rintro e w9 ⟨rfl, hb9⟩
          have HW9 := Lib.hid (HW8.out.trans (hb9.mono HW8.out.size))
          go_wp2
          go_ret
          exact ⟨rfl, HW9.out⟩
        · have hp' : (0 : Int) < s.np := by omega
          by_cases hp32 : s.np < 32
          · have hp32' : (s.np : Int) < 32 := by omega
            obtain ⟨ip, hip, hz0p, hz1p, hz2p⟩ := info_parts infoLP
            have hnp0 : 0 < s.np := by omega
            obtain ⟨-, h9 | ⟨b4, off4, hpa, hb4, hpc⟩⟩ := HS3.out.p
            · omega
            rw [hpa] at d13
            have hnq : ((s.np : Int) - 1).toNat = s.np - 1 := by omega
            have hwr : IntKind.i64.wrap ((s.np : Int) - 1) = (s.np : Int) - 1 := by
              have e : IntKind.i64.wrap ((s.np : Int) - 1) = if 9223372036854775808 ≤ ((s.np : Int) - 1) % 18446744073709551616 then ((s.np : Int) - 1) % 18446744073709551616 - 18446744073709551616 else ((s.np : Int) - 1) % 18446744073709551616 := by simp [IntKind.wrap, IntKind.bits, IntKind.signed]
              rw [e]; split <;> omega
            have hnp1 : (1 : Int) ≤ s.np := by omega
            have hnq1 : (0 : Int) ≤ (s.np : Int) - 1 := by omega
            have hnq2 : (s.np : Int) - 1 < s.np := by omega
            have f0 : w3.cell? ⟨b4, off4 + (s.np - 1) * 5, none⟩ = some (.int .i64 (s.P ((s.np - 1) * 5))) := by have := hpc ((s.np - 1) * 5) (by omega); exact this
            have f1 : w3.cell? ⟨b4, off4 + (s.np - 1) * 5 + 1, none⟩ = some (.int .i64 (s.P ((s.np - 1) * 5 + 1))) := by have := hpc ((s.np - 1) * 5 + 1) (by omega); rwa [← Nat.add_assoc] at this
            have f2 : w3.cell? ⟨b4, off4 + (s.np - 1) * 5 + 2, none⟩ = some (.int .i64 (s.P ((s.np - 1) * 5 + 2))) := by have := hpc ((s.np - 1) * 5 + 2) (by omega); rwa [← Nat.add_assoc] at this
            have f3 : w3.cell? ⟨b4, off4 + (s.np - 1) * 5 + 3, none⟩ = some (.int .i64 (s.P ((s.np - 1) * 5 + 3))) := by have := hpc ((s.np - 1) * 5 + 3) (by omega); rwa [← Nat.add_assoc] at this
            have f4 : w3.cell? ⟨b4, off4 + (s.np - 1) * 5 + 4, none⟩ = some (.int .i64 (s.P ((s.np - 1) * 5 + 4))) := by have := hpc ((s.np - 1) * 5 + 4) (by omega); rwa [← Nat.add_assoc] at this
            have HB0 : Below wy.heap.size wy (wy.alloc (.cells c1.toArray 50)).drew := (below_n1 wy _).drew
            have HQ0 : (wy.alloc (.cells c1.toArray 50)).drew.heap[wy.heap.size]? = some (.cells c1.toArray 50 (0, 0)) := heap_alloc_last wy (.cells c1.toArray 50)
            have lq0 : wy.heap.size < (wy.alloc (.cells c1.toArray 50)).drew.heap.size := by show _ < (wy.alloc _).heap.size; rw [World.size_alloc]; omega
            have lb0 : wy.heap.size + 1 ≤ (wy.alloc (.cells c1.toArray 50)).drew.heap.size := lq0
            have hz0 : w3.heap.size ≤ (wy.alloc (.cells c1.toArray 50)).drew.heap.size := by omega
            have hLow : ∀ k, k < w3.heap.size → (wy.alloc (.cells c1.toArray 50)).drew.heap[k]? = w3.heap[k]? := fun k hk => ((below_n1 wy (.cells c1.toArray 50)).block k (by omega)).trans (hLow0 k hk)
            go_upto_region 12 with (first | (with_reducible refine wpList_load_row rfl 50 (.tmp 3) rfl w1.heap.size rfl 50 c1.toArray (0, 0) _ HXy.out Try.underlying50 rfl HZ1.out ?_) | (with_reducible refine Re.wpList_store_new rfl 50 (.tmp 8) (.tmp 44) rfl wy ZSc c1.toArray wy.heap.size rfl rfl rfl HZ1.out HZ2.out HZ3.out ?_))
            refine wp_region_held_drew (S := fun y => ∀ k, k < w3.heap.size → y.heap[k]? = w3.heap[k]?) (by kernel_rfl) (hLow) (fun hS0 => ?_)
            obtain ⟨y0, hy0⟩ : ∃ y0, (wy.alloc (.cells c1.toArray 50)).drew = y0 := ⟨_, rfl⟩
            rw [hy0] at hS0 HB0 HQ0 lq0 lb0 hz0 ⊢
            clear hy0 hLow
            refine wpAnyH_take (i := 1) (v := ?_) rfl (by kernel_rfl) (by kernel_rfl) (by kernel_rfl) (fun _ _ _ h => h) (Or.inl ⟨by kernel_rfl, by (intro wz hSz; go_simp; try with_reducible rfl)⟩) hS0 ?_
            go_simp
            refine wpAnyH_take (i := 2) (v := ?_) rfl (by kernel_rfl) (by kernel_rfl) (by kernel_rfl) (fun _ _ _ h => h) (Or.inl ⟨by kernel_rfl, by (intro wz hSz; have d13z := (World.cell?_of_block (a := ⟨w1.heap.size, 13, none⟩) (hSz _ hl3)).trans d13; go_simp; try with_reducible rfl)⟩) hS0 ?_
            go_simp
            refine wpAnyH_take (i := 4) (v := ?_) rfl (by kernel_rfl) (by kernel_rfl) (by kernel_rfl) (fun _ _ _ h => h) (Or.inl ⟨by kernel_rfl, by (intro wz hSz; go_simp; try with_reducible rfl)⟩) hS0 ?_
            go_simp
            refine wpAnyH_take (i := 5) (v := ?_) rfl (by kernel_rfl) (by kernel_rfl) (by kernel_rfl) (fun _ _ _ h => h) (Or.inl ⟨by kernel_rfl, by (intro wz hSz; have d13z := (World.cell?_of_block (a := ⟨w1.heap.size, 13, none⟩) (hSz _ hl3)).trans d13; go_simp; try with_reducible rfl)⟩) hS0 ?_
            go_simp
            refine wpAnyH_take (i := 6) (v := ?_) rfl (by kernel_rfl) (by kernel_rfl) (by kernel_rfl) (fun _ _ _ h => h) (Or.inl ⟨by kernel_rfl, by (intro wz hSz; go_simp; try with_reducible rfl)⟩) hS0 ?_
            go_simp
            refine wpAnyH_take (i := 7) (v := ?_) rfl (by kernel_rfl) (by kernel_rfl) (by kernel_rfl) (fun _ _ _ h => h) (Or.inl ⟨by kernel_rfl, by (intro wz hSz; go_simp; try with_reducible rfl)⟩) hS0 ?_
            go_simp
            refine wpAnyH_take (i := 8) (v := ?_) rfl (by kernel_rfl) (by kernel_rfl) (by kernel_rfl) (fun _ _ _ h => h) (Or.inl ⟨by kernel_rfl, by (intro wz hSz; go_simp; try with_reducible rfl)⟩) hS0 ?_
            go_simp
            refine wpAnyH_take (i := 9) (v := ?_) rfl (by kernel_rfl) (by kernel_rfl) (by kernel_rfl) (fun _ _ _ h => h) (Or.inl ⟨by kernel_rfl, by (intro wz hSz; have f0z := (World.cell?_of_block (a := ⟨b4, off4 + (s.np - 1) * 5, none⟩) (hSz _ hb4)).trans f0; have f1z := (World.cell?_of_block (a := ⟨b4, off4 + (s.np - 1) * 5 + 1, none⟩) (hSz _ hb4)).trans f1; have f2z := (World.cell?_of_block (a := ⟨b4, off4 + (s.np - 1) * 5 + 2, none⟩) (hSz _ hb4)).trans f2; have f3z := (World.cell?_of_block (a := ⟨b4, off4 + (s.np - 1) * 5 + 3, none⟩) (hSz _ hb4)).trans f3; have f4z := (World.cell?_of_block (a := ⟨b4, off4 + (s.np - 1) * 5 + 4, none⟩) (hSz _ hb4)).trans f4; go_simp; try with_reducible rfl)⟩) hS0 ?_
            go_simp
            refine wpAnyH_ready (rs := [0, 10]) (by kernel_rfl) (by simp) ?_
            refine AllReadyH.cons rfl (fun K hK => ?_) (AllReadyH.cons rfl (fun K hK => ?_) AllReadyH.nil)
            · skip
              go_simp
              have hb1 := below_n1 y0 (.cells #[] 76)
              have hz1 : w3.heap.size ≤ (y0.alloc (.cells #[] 76)).heap.size := Nat.le_trans hz0 hb1.size
              have HB1 := HB0.trans (hb1.mono HB0.size)
              have HQ1 := (hb1.block _ lq0).trans HQ0
              have lq1 := Nat.lt_of_lt_of_le lq0 hb1.size
              have hs1 : (y0.alloc (.cells #[] 76)).heap.size = y0.heap.size + 1 := by rw [World.size_alloc]
              have hO1 := World.ownsRow_lit (base := wy.heap.size + 1) (size := 5) y0 #[] 0 (e := 76) lb0 (by unfold maxLen; omega) rfl
              try rw [World.size_alloc] at hO1
              have lb1 : wy.heap.size + 1 ≤ (y0.alloc (.cells #[] 76)).heap.size := Nat.le_trans lb0 hb1.size
              refine hK.out _ _ (fun k hk => (hb1.block k (Nat.lt_of_lt_of_le hk hz0)).trans (hS0 k hk)) (fun hS1 => ?_)
              clear hK K
              refine wpAnyH_ready (rs := [3, 10]) (by kernel_rfl) (by simp) ?_
              refine AllReadyH.cons rfl (fun K hK => ?_) (AllReadyH.cons rfl (fun K hK => ?_) AllReadyH.nil)
              · skip
                have hnews2 : ∀ j u, (fl 5 s.P s.np)[j]? = some u → (y0.alloc (.cells #[] 76)).cell? ((⟨b4, off4, none⟩ : Addr).add j) = some u := by
                  intro j u hj
                  have hj5 : j < s.np * 5 := by
                    rcases Nat.lt_or_ge j (s.np * 5) with h' | h'
                    · exact h'
                    · rw [List.getElem?_eq_none (by simp [fl]; omega)] at hj; cases hj
                  rw [fl_at 5 s.P s.np j hj5] at hj
                  cases hj
                  rw [Addr.add_mid]
                  exact (World.cell?_of_block (a := ⟨b4, off4 + j, none⟩) (hS1 b4 hb4)).trans (hpc j hj5)
                refine step_append_lies _ rfl _ _ 45 rfl (wy.heap.size + 1) 76 ip (.agg #[.int .i64 0, .int .i64 0, .int .i64 0, .int .i64 0, .int .i64 0]) 5 40 Try.underlying45 hip hz0p hz1p hz2p rfl (by decide) _ _ _ rfl hO1 ⟨b4, off4, none⟩ s.np a1.pc (fl 5 s.P s.np) rfl (by simp [fl]) hnews2 (fl_one 5 s.P s.np) hnp0 (by unfold maxLen; omega) (by omega) lb1 _ rfl ?_
                intro g2 cg2 u2 ho2 hg2 hk2 hlx2
                have hz2 : w3.heap.size ≤ u2.heap.size := Nat.le_trans hz1 hg2.size
                have HB2 := HB1.grown hg2 HB1.size (fun q hq => by have := (hO1.lt q hq).1; omega)
                have HQ2 := (hg2.block wy.heap.size lq1 (fun e => by have := (hO1.lt _ e.symm).1; omega)).trans HQ1
                have lq2 := Nat.lt_of_lt_of_le lq1 hg2.size
                have lb2 : wy.heap.size + 1 ≤ u2.heap.size := Nat.le_trans lb1 hg2.size
                rw [Nat.zero_add, List.nil_append] at ho2
                simp only [Nat.zero_add]
                refine hK.out _ _ (fun k hk => (hg2.block k (Nat.lt_of_lt_of_le hk hz1) (fun e => by have := (hO1.lt _ e.symm).1; have := hlyy; omega)).trans (hS1 k hk)) (fun hS2 => ?_)
                clear hK K
                refine wpAnyH_ready (rs := [10]) (by kernel_rfl) (by simp) ?_
                refine AllReadyH.cons rfl (fun K hK => ?_) AllReadyH.nil
                go_simp
                have hb3 := below_n1 u2 (.cells #[.int .i64 (s.P ((s.np - 1) * 5)), .int .i64 (s.P ((s.np - 1) * 5 + 1)), .int .i64 (s.P ((s.np - 1) * 5 + 2)), .int .i64 (s.P ((s.np - 1) * 5 + 3)), .int .i64 (s.P ((s.np - 1) * 5 + 4))] 76)
                have hz3 : w3.heap.size ≤ (u2.alloc (.cells #[.int .i64 (s.P ((s.np - 1) * 5)), .int .i64 (s.P ((s.np - 1) * 5 + 1)), .int .i64 (s.P ((s.np - 1) * 5 + 2)), .int .i64 (s.P ((s.np - 1) * 5 + 3)), .int .i64 (s.P ((s.np - 1) * 5 + 4))] 76)).heap.size := Nat.le_trans hz2 hb3.size
                have HB3 := HB2.trans (hb3.mono HB2.size)
                have HQ3 := (hb3.block _ lq2).trans HQ2
                have lq3 := Nat.lt_of_lt_of_le lq2 hb3.size
                have hs3 : (u2.alloc (.cells #[.int .i64 (s.P ((s.np - 1) * 5)), .int .i64 (s.P ((s.np - 1) * 5 + 1)), .int .i64 (s.P ((s.np - 1) * 5 + 2)), .int .i64 (s.P ((s.np - 1) * 5 + 3)), .int .i64 (s.P ((s.np - 1) * 5 + 4))] 76)).heap.size = u2.heap.size + 1 := by rw [World.size_alloc]
                have hN3 : (u2.alloc (.cells #[.int .i64 (s.P ((s.np - 1) * 5)), .int .i64 (s.P ((s.np - 1) * 5 + 1)), .int .i64 (s.P ((s.np - 1) * 5 + 2)), .int .i64 (s.P ((s.np - 1) * 5 + 3)), .int .i64 (s.P ((s.np - 1) * 5 + 4))] 76)).heap[u2.heap.size]? = some (.cells #[.int .i64 (s.P ((s.np - 1) * 5)), .int .i64 (s.P ((s.np - 1) * 5 + 1)), .int .i64 (s.P ((s.np - 1) * 5 + 2)), .int .i64 (s.P ((s.np - 1) * 5 + 3)), .int .i64 (s.P ((s.np - 1) * 5 + 4))] 76 (0, 0)) := by have h := heap_alloc_last u2 (.cells #[.int .i64 (s.P ((s.np - 1) * 5)), .int .i64 (s.P ((s.np - 1) * 5 + 1)), .int .i64 (s.P ((s.np - 1) * 5 + 2)), .int .i64 (s.P ((s.np - 1) * 5 + 3)), .int .i64 (s.P ((s.np - 1) * 5 + 4))] 76); exact h
                have lN3 : u2.heap.size < (u2.alloc (.cells #[.int .i64 (s.P ((s.np - 1) * 5)), .int .i64 (s.P ((s.np - 1) * 5 + 1)), .int .i64 (s.P ((s.np - 1) * 5 + 2)), .int .i64 (s.P ((s.np - 1) * 5 + 3)), .int .i64 (s.P ((s.np - 1) * 5 + 4))] 76)).heap.size := lt_of_heap hN3
                have hO3 := own_below ho2 hb3
                have neN3 : u2.heap.size ≠ g2 := Nat.ne_of_gt hlx2
                have lb3 : wy.heap.size + 1 ≤ (u2.alloc (.cells #[.int .i64 (s.P ((s.np - 1) * 5)), .int .i64 (s.P ((s.np - 1) * 5 + 1)), .int .i64 (s.P ((s.np - 1) * 5 + 2)), .int .i64 (s.P ((s.np - 1) * 5 + 3)), .int .i64 (s.P ((s.np - 1) * 5 + 4))] 76)).heap.size := Nat.le_trans lb2 hb3.size
                refine hK.out _ _ (fun k hk => (hb3.block k (Nat.lt_of_lt_of_le hk hz2)).trans (hS2 k hk)) (fun hS3 => ?_)
                clear hK K
                refine wpAnyH_ready (rs := [11]) (by kernel_rfl) (by simp) ?_
                refine AllReadyH.cons rfl (fun K hK => ?_) AllReadyH.nil
                have hnews4 := World.news_of_block hN3
                refine step_append_lies _ rfl _ _ 45 rfl (wy.heap.size + 1) 76 ip (.agg #[.int .i64 0, .int .i64 0, .int .i64 0, .int .i64 0, .int .i64 0]) 5 40 Try.underlying45 hip hz0p hz1p hz2p rfl (by decide) _ _ _ rfl hO3 ⟨u2.heap.size, 0, none⟩ 1 1 [.int .i64 (s.P ((s.np - 1) * 5)), .int .i64 (s.P ((s.np - 1) * 5 + 1)), .int .i64 (s.P ((s.np - 1) * 5 + 2)), .int .i64 (s.P ((s.np - 1) * 5 + 3)), .int .i64 (s.P ((s.np - 1) * 5 + 4))] rfl rfl hnews4 (by intro u hu; simp at hu; rcases hu with rfl | rfl | rfl | rfl | rfl <;> rfl) (by omega) (by unfold maxLen; omega) (by omega) lb3 _ rfl ?_
                intro g4 cg4 u4 ho4 hg4 hk4 hlx4
                have hz4 : w3.heap.size ≤ u4.heap.size := Nat.le_trans hz3 hg4.size
                have HB4 := HB3.grown hg4 HB3.size (fun q hq => by have := (hO3.lt q hq).1; omega)
                have HQ4 := (hg4.block wy.heap.size lq3 (fun e => by have := (hO3.lt _ e.symm).1; omega)).trans HQ3
                have lq4 := Nat.lt_of_lt_of_le lq3 hg4.size
                have lb4 : wy.heap.size + 1 ≤ u4.heap.size := Nat.le_trans lb3 hg4.size
                refine hK.out _ _ (fun k hk => (hg4.block k (Nat.lt_of_lt_of_le hk hz3) (fun e => by have := (hO3.lt _ e.symm).1; have := hlyy; omega)).trans (hS3 k hk)) (fun hS4 => ?_)
                clear hK K
                refine wpAnyH_take (i := 12) (v := ?_) rfl (by kernel_rfl) (by kernel_rfl) (by kernel_rfl) (fun _ _ _ h => h) (Or.inl ⟨by kernel_rfl, by (intro wz hSz; go_simp; try with_reducible rfl)⟩) hS4 ?_
                go_simp
                refine wpAnyH_ready (rs := [13]) (by kernel_rfl) (by simp) ?_
                refine AllReadyH.cons rfl (fun K hK => ?_) AllReadyH.nil
                have o13 : u4.cell? ⟨wy.heap.size, 13, none⟩ = some (.slice a1.pa s.np a1.pc) := by rw [cell_of_row _ _ 13 _ _ _ HQ4, HC1.out]; rfl
                have fz13 := frozen0 HQ4 13
                go_simp
                refine hK.out _ _ (fun k hk => (Below.heap_setCell _ _ _ _ (by have := hlyy; show k ≠ wy.heap.size; omega)).trans (hS4 k hk)) (fun hSz => ?_)
                clear hK K
                refine wpAnyH_done (by kernel_rfl) ?_ _
                have HZ9 := heap_setCell_same u4 wy.heap.size 13 _ _ (.slice (some ⟨g4, 0, none⟩) (s.np + 1) cg4) HQ4
                have HB9 : Below wy.heap.size wy (u4.setCell ⟨wy.heap.size, 13, none⟩ (.slice (some ⟨g4, 0, none⟩) (s.np + 1) cg4)) := HB4.setCell (Nat.le_refl _) _
                have HO9 := ownsRow_setCell_below ho4 (a := ⟨wy.heap.size, 13, none⟩) (by show wy.heap.size < wy.heap.size + 1; omega) (.slice (some ⟨g4, 0, none⟩) (s.np + 1) cg4)
                obtain ⟨wz, hwz⟩ : ∃ wz, u4.setCell ⟨wy.heap.size, 13, none⟩ (.slice (some ⟨g4, 0, none⟩) (s.np + 1) cg4) = wz := ⟨_, rfl⟩
                rw [hwz] at HZ9 HB9 HO9 ⊢
                have hSz2 : wz.heap[w1.heap.size]? = w3.heap[w1.heap.size]? := by rw [← hwz]; exact hSz _ hl3
                obtain ⟨az, haz⟩ : ∃ az : Pla, az = { a1 with pa := some ⟨g4, 0, none⟩, pc := cg4 } := ⟨_, rfl⟩
                obtain ⟨cz, hcz⟩ : ∃ cz : List Value, cz = c1.set 13 (.slice (some ⟨g4, 0, none⟩) (s.np + 1) cg4) := ⟨_, rfl⟩
                have HXz := Lib.hid (hSz2.trans HX3.out)
                have HYz := Lib.hid ((HB9.block _ hlyy).trans HYy.out)
                have HZz := Lib.hid (show wz.heap[wy.heap.size]? = some (.cells cz.toArray 50 (0, 0)) by rw [HZ9, hcz]; simp)
                have HTy := Lib.hid (HTy0.out.on HB9)
                have HSz := Lib.hid (HSy.out.on HB9)
                have HTz := Lib.hid (show ScAt wz (moreP s) az by rw [haz]; exact more_at HSz.out hp32 HO9 hnp0)
                have HWz := Lib.hid (HWy.out.trans (HB9.mono HWy.out.size))
                have hlyz := Nat.lt_of_lt_of_le hlyy HB9.size
                have hlzz : wy.heap.size < wz.heap.size := (lt_of_heap HZ9)
                have HCz := Lib.hid (show cz.toArray = SC (moreP s) az by rw [hcz, haz, HL1.out]; rfl)
                have HEz := Lib.hid (show SV (moreP s) az = .agg cz.toArray by rw [HCz.out])
                have HOKz := Lib.hid (more_ok HOK.out hnp0 hp32)
                clear hwz hcz haz HZ9 HO9 HB9
                go_upto_region 13 with fail
                have hwB := Lib.hid (heap_alloc_last wz (.cells c1.toArray 50))
                have hy4 : (wz.alloc (.cells c1.toArray 50)).cell? ⟨wz.heap.size, 4, none⟩ = some (.int .i64 s.fr) := by rw [cell_of_row _ _ 4 _ _ _ hwB.out, HC1.out]; rfl
                have hyf4 : (wz.alloc (.cells c1.toArray 50)).frozen? ⟨wz.heap.size, 4, none⟩ = false := frozen0 hwB.out 4
                obtain ⟨cw, hcw⟩ : ∃ cw, cw = c1.set 4 (.int .i64 1) := ⟨_, rfl⟩
                have HCW := Lib.hid (show cw.toArray = SC (oneF s) a1 by rw [hcw, HL1.out]; rfl)
                have HEw := Lib.hid (show SV (oneF s) a1 = .agg cw.toArray by rw [HCW.out])
                have HZy := Lib.hid (show (Try.prog.info? 50).map (·.size) = some cy.toArray.size by rw [HCy.out]; kernel_rfl)
                have HZz2 := Lib.hid (show (Try.prog.info? 50).map (·.size) = some cz.toArray.size by rw [HCz.out]; kernel_rfl)
                have HZw := Lib.hid (show (Try.prog.info? 50).map (·.size) = some cw.toArray.size by rw [HCW.out]; kernel_rfl)
                go_upto_region 15 with (first | (with_reducible refine wpList_load_row rfl 50 (.tmp 3) rfl w1.heap.size rfl 50 c1.toArray (0, 0) _ HXz.out Try.underlying50 rfl HZ1.out ?_) | (with_reducible refine Re.wpList_store_new rfl 50 (.tmp 10) (.tmp 67) rfl wz ZSc c1.toArray wz.heap.size rfl rfl rfl HZ1.out HZ2.out HZ3.out ?_))
                try rw [← hcw]
                have hbw := below_n1 wz (.cells cw.toArray 50)
                have hwW := Lib.hid (heap_alloc_last wz (.cells cw.toArray 50))
                obtain ⟨wv, hwv⟩ : ∃ wv, wz.alloc (.cells cw.toArray 50) = wv := ⟨_, rfl⟩
                rw [hwv] at hbw hwW ⊢
                have HY5 := Lib.hid ((hbw.block _ hlyz).trans HYz.out)
                have HZ5 := Lib.hid ((hbw.block _ hlzz).trans HZz.out)
                have HT5y := Lib.hid (HTy.out.on hbw)
                have HT5z := Lib.hid (HTz.out.on hbw)
                have HT5w := Lib.hid ((HSz.out.on hbw).one)
                have HW5 := Lib.hid (HWz.out.trans (hbw.mono HWz.out.size))
                have hl5y := Nat.lt_of_lt_of_le hlyz hbw.size
                have hl5z := Nat.lt_of_lt_of_le hlzz hbw.size
                have hl5w : wz.heap.size < wv.heap.size := by rw [← hwv]; simp
                clear hbw hwv hcw hwB hy4 hyf4
                go_wp2_with (first | (with_reducible refine wpList_load_row rfl 50 (.tmp 6) rfl w3.heap.size rfl 50 cy.toArray (0, 0) _ HY5.out Try.underlying50 rfl HZy.out ?_))
                rw [← HEy.out]
                refine (check_zero (less_ok HOK.out) _ HT5y.out).mono ?_
                rintro e w6 ⟨⟨p6, rfl⟩, hb6⟩
                rw [HEy.out]
                have HZ6 := Lib.hid ((hb6.block _ hl5z).trans HZ5.out)
                have HT6z := Lib.hid (HT5z.out.on hb6)
                have HW6 := Lib.hid (HW5.out.trans (hb6.mono HW5.out.size))
                have hwW6 := Lib.hid ((hb6.block _ hl5w).trans hwW.out)
                have HT6w := Lib.hid (HT5w.out.on hb6)
                have hl6z := Nat.lt_of_lt_of_le hl5z hb6.size
                have hl6w := Nat.lt_of_lt_of_le hl5w hb6.size
                clear hb6
                go_wp2_with (first | (with_reducible refine wpList_load_row rfl 50 (.tmp 8) rfl wy.heap.size rfl 50 cz.toArray (0, 0) _ HZ6.out Try.underlying50 rfl HZz2.out ?_))
                rw [← HEz.out]
                refine (check_zero HOKz.out _ HT6z.out).mono ?_
                rintro e w7 ⟨⟨p7, rfl⟩, hb7⟩
                rw [HEz.out]
                have HW7 := Lib.hid (HW6.out.trans (hb7.mono HW6.out.size))
                have hwW7 := Lib.hid ((hb7.block _ hl6w).trans hwW6.out)
                have HT7w := Lib.hid (HT6w.out.on hb7)
                clear hb7
                go_wp2_with (first | (with_reducible refine wpList_load_row rfl 50 (.tmp 10) rfl wz.heap.size rfl 50 cw.toArray (0, 0) _ hwW7.out Try.underlying50 rfl HZw.out ?_))
                rw [← HEw.out]
                refine (check_zero (oneF_ok HOK.out) _ HT7w.out).mono ?_
                rintro e w8 ⟨⟨p8, rfl⟩, hb8⟩
                rw [HEw.out]
                have HW8 := Lib.hid (HW7.out.trans (hb8.mono HW7.out.size))
                clear hb8
                go_wp2_with fail
                refine (awake_any _).mono ?_
                rintro e w9 ⟨rfl, hb9⟩
                have HW9 := Lib.hid (HW8.out.trans (hb9.mono HW8.out.size))
                go_wp2
                go_ret
                exact ⟨rfl, HW9.out⟩
              · skip
                go_simp
                have hb2 := below_n1 (y0.alloc (.cells #[] 76)) (.cells #[.int .i64 (s.P ((s.np - 1) * 5)), .int .i64 (s.P ((s.np - 1) * 5 + 1)), .int .i64 (s.P ((s.np - 1) * 5 + 2)), .int .i64 (s.P ((s.np - 1) * 5 + 3)), .int .i64 (s.P ((s.np - 1) * 5 + 4))] 76)
                have hz2 : w3.heap.size ≤ ((y0.alloc (.cells #[] 76)).alloc (.cells #[.int .i64 (s.P ((s.np - 1) * 5)), .int .i64 (s.P ((s.np - 1) * 5 + 1)), .int .i64 (s.P ((s.np - 1) * 5 + 2)), .int .i64 (s.P ((s.np - 1) * 5 + 3)), .int .i64 (s.P ((s.np - 1) * 5 + 4))] 76)).heap.size := Nat.le_trans hz1 hb2.size
                have HB2 := HB1.trans (hb2.mono HB1.size)
                have HQ2 := (hb2.block _ lq1).trans HQ1
                have lq2 := Nat.lt_of_lt_of_le lq1 hb2.size
                have hs2 : ((y0.alloc (.cells #[] 76)).alloc (.cells #[.int .i64 (s.P ((s.np - 1) * 5)), .int .i64 (s.P ((s.np - 1) * 5 + 1)), .int .i64 (s.P ((s.np - 1) * 5 + 2)), .int .i64 (s.P ((s.np - 1) * 5 + 3)), .int .i64 (s.P ((s.np - 1) * 5 + 4))] 76)).heap.size = (y0.alloc (.cells #[] 76)).heap.size + 1 := by rw [World.size_alloc]
                have hN2 : ((y0.alloc (.cells #[] 76)).alloc (.cells #[.int .i64 (s.P ((s.np - 1) * 5)), .int .i64 (s.P ((s.np - 1) * 5 + 1)), .int .i64 (s.P ((s.np - 1) * 5 + 2)), .int .i64 (s.P ((s.np - 1) * 5 + 3)), .int .i64 (s.P ((s.np - 1) * 5 + 4))] 76)).heap[(y0.heap.size + 1)]? = some (.cells #[.int .i64 (s.P ((s.np - 1) * 5)), .int .i64 (s.P ((s.np - 1) * 5 + 1)), .int .i64 (s.P ((s.np - 1) * 5 + 2)), .int .i64 (s.P ((s.np - 1) * 5 + 3)), .int .i64 (s.P ((s.np - 1) * 5 + 4))] 76 (0, 0)) := by have h := heap_alloc_last (y0.alloc (.cells #[] 76)) (.cells #[.int .i64 (s.P ((s.np - 1) * 5)), .int .i64 (s.P ((s.np - 1) * 5 + 1)), .int .i64 (s.P ((s.np - 1) * 5 + 2)), .int .i64 (s.P ((s.np - 1) * 5 + 3)), .int .i64 (s.P ((s.np - 1) * 5 + 4))] 76); rw [World.size_alloc] at h; exact h
                have lN2 : (y0.heap.size + 1) < ((y0.alloc (.cells #[] 76)).alloc (.cells #[.int .i64 (s.P ((s.np - 1) * 5)), .int .i64 (s.P ((s.np - 1) * 5 + 1)), .int .i64 (s.P ((s.np - 1) * 5 + 2)), .int .i64 (s.P ((s.np - 1) * 5 + 3)), .int .i64 (s.P ((s.np - 1) * 5 + 4))] 76)).heap.size := lt_of_heap hN2
                have hO2 := own_below hO1 hb2
                have neN2 : (y0.heap.size + 1) ≠ y0.heap.size := by omega
                have lb2 : wy.heap.size + 1 ≤ ((y0.alloc (.cells #[] 76)).alloc (.cells #[.int .i64 (s.P ((s.np - 1) * 5)), .int .i64 (s.P ((s.np - 1) * 5 + 1)), .int .i64 (s.P ((s.np - 1) * 5 + 2)), .int .i64 (s.P ((s.np - 1) * 5 + 3)), .int .i64 (s.P ((s.np - 1) * 5 + 4))] 76)).heap.size := Nat.le_trans lb1 hb2.size
                refine hK.out _ _ (fun k hk => (hb2.block k (Nat.lt_of_lt_of_le hk hz1)).trans (hS1 k hk)) (fun hS2 => ?_)
                clear hK K
                refine wpAnyH_ready (rs := [3]) (by kernel_rfl) (by simp) ?_
                refine AllReadyH.cons rfl (fun K hK => ?_) AllReadyH.nil
                have hnews3 : ∀ j u, (fl 5 s.P s.np)[j]? = some u → ((y0.alloc (.cells #[] 76)).alloc (.cells #[.int .i64 (s.P ((s.np - 1) * 5)), .int .i64 (s.P ((s.np - 1) * 5 + 1)), .int .i64 (s.P ((s.np - 1) * 5 + 2)), .int .i64 (s.P ((s.np - 1) * 5 + 3)), .int .i64 (s.P ((s.np - 1) * 5 + 4))] 76)).cell? ((⟨b4, off4, none⟩ : Addr).add j) = some u := by
                  intro j u hj
                  have hj5 : j < s.np * 5 := by
                    rcases Nat.lt_or_ge j (s.np * 5) with h' | h'
                    · exact h'
                    · rw [List.getElem?_eq_none (by simp [fl]; omega)] at hj; cases hj
                  rw [fl_at 5 s.P s.np j hj5] at hj
                  cases hj
                  rw [Addr.add_mid]
                  exact (World.cell?_of_block (a := ⟨b4, off4 + j, none⟩) (hS2 b4 hb4)).trans (hpc j hj5)
                refine step_append_lies _ rfl _ _ 45 rfl (wy.heap.size + 1) 76 ip (.agg #[.int .i64 0, .int .i64 0, .int .i64 0, .int .i64 0, .int .i64 0]) 5 40 Try.underlying45 hip hz0p hz1p hz2p rfl (by decide) _ _ _ rfl hO2 ⟨b4, off4, none⟩ s.np a1.pc (fl 5 s.P s.np) rfl (by simp [fl]) hnews3 (fl_one 5 s.P s.np) hnp0 (by unfold maxLen; omega) (by omega) lb2 _ rfl ?_
                intro g3 cg3 u3 ho3 hg3 hk3 hlx3
                have hz3 : w3.heap.size ≤ u3.heap.size := Nat.le_trans hz2 hg3.size
                have HB3 := HB2.grown hg3 HB2.size (fun q hq => by have := (hO2.lt q hq).1; omega)
                have HQ3 := (hg3.block wy.heap.size lq2 (fun e => by have := (hO2.lt _ e.symm).1; omega)).trans HQ2
                have lq3 := Nat.lt_of_lt_of_le lq2 hg3.size
                have lb3 : wy.heap.size + 1 ≤ u3.heap.size := Nat.le_trans lb2 hg3.size
                rw [Nat.zero_add, List.nil_append] at ho3
                simp only [Nat.zero_add]
                have hN3 := (hg3.block _ lN2 (fun e => neN2 (Option.some.inj e))).trans hN2
                have lN3 := Nat.lt_of_lt_of_le lN2 hg3.size
                refine hK.out _ _ (fun k hk => (hg3.block k (Nat.lt_of_lt_of_le hk hz2) (fun e => by have := (hO2.lt _ e.symm).1; have := hlyy; omega)).trans (hS2 k hk)) (fun hS3 => ?_)
                clear hK K
                refine wpAnyH_ready (rs := [11]) (by kernel_rfl) (by simp) ?_
                refine AllReadyH.cons rfl (fun K hK => ?_) AllReadyH.nil
                have hnews4 := World.news_of_block hN3
                refine step_append_lies _ rfl _ _ 45 rfl (wy.heap.size + 1) 76 ip (.agg #[.int .i64 0, .int .i64 0, .int .i64 0, .int .i64 0, .int .i64 0]) 5 40 Try.underlying45 hip hz0p hz1p hz2p rfl (by decide) _ _ _ rfl ho3 ⟨(y0.heap.size + 1), 0, none⟩ 1 1 [.int .i64 (s.P ((s.np - 1) * 5)), .int .i64 (s.P ((s.np - 1) * 5 + 1)), .int .i64 (s.P ((s.np - 1) * 5 + 2)), .int .i64 (s.P ((s.np - 1) * 5 + 3)), .int .i64 (s.P ((s.np - 1) * 5 + 4))] rfl rfl hnews4 (by intro u hu; simp at hu; rcases hu with rfl | rfl | rfl | rfl | rfl <;> rfl) (by omega) (by unfold maxLen; omega) (by omega) lb3 _ rfl ?_
                intro g4 cg4 u4 ho4 hg4 hk4 hlx4
                have hz4 : w3.heap.size ≤ u4.heap.size := Nat.le_trans hz3 hg4.size
                have HB4 := HB3.grown hg4 HB3.size (fun q hq => by have := (ho3.lt q hq).1; omega)
                have HQ4 := (hg4.block wy.heap.size lq3 (fun e => by have := (ho3.lt _ e.symm).1; omega)).trans HQ3
                have lq4 := Nat.lt_of_lt_of_le lq3 hg4.size
                have lb4 : wy.heap.size + 1 ≤ u4.heap.size := Nat.le_trans lb3 hg4.size
                refine hK.out _ _ (fun k hk => (hg4.block k (Nat.lt_of_lt_of_le hk hz3) (fun e => by have := (ho3.lt _ e.symm).1; have := hlyy; omega)).trans (hS3 k hk)) (fun hS4 => ?_)
                clear hK K
                refine wpAnyH_take (i := 12) (v := ?_) rfl (by kernel_rfl) (by kernel_rfl) (by kernel_rfl) (fun _ _ _ h => h) (Or.inl ⟨by kernel_rfl, by (intro wz hSz; go_simp; try with_reducible rfl)⟩) hS4 ?_
                go_simp
                refine wpAnyH_ready (rs := [13]) (by kernel_rfl) (by simp) ?_
                refine AllReadyH.cons rfl (fun K hK => ?_) AllReadyH.nil
                have o13 : u4.cell? ⟨wy.heap.size, 13, none⟩ = some (.slice a1.pa s.np a1.pc) := by rw [cell_of_row _ _ 13 _ _ _ HQ4, HC1.out]; rfl
                have fz13 := frozen0 HQ4 13
                go_simp
                refine hK.out _ _ (fun k hk => (Below.heap_setCell _ _ _ _ (by have := hlyy; show k ≠ wy.heap.size; omega)).trans (hS4 k hk)) (fun hSz => ?_)
                clear hK K
                refine wpAnyH_done (by kernel_rfl) ?_ _
                have HZ9 := heap_setCell_same u4 wy.heap.size 13 _ _ (.slice (some ⟨g4, 0, none⟩) (s.np + 1) cg4) HQ4
                have HB9 : Below wy.heap.size wy (u4.setCell ⟨wy.heap.size, 13, none⟩ (.slice (some ⟨g4, 0, none⟩) (s.np + 1) cg4)) := HB4.setCell (Nat.le_refl _) _
                have HO9 := ownsRow_setCell_below ho4 (a := ⟨wy.heap.size, 13, none⟩) (by show wy.heap.size < wy.heap.size + 1; omega) (.slice (some ⟨g4, 0, none⟩) (s.np + 1) cg4)
                obtain ⟨wz, hwz⟩ : ∃ wz, u4.setCell ⟨wy.heap.size, 13, none⟩ (.slice (some ⟨g4, 0, none⟩) (s.np + 1) cg4) = wz := ⟨_, rfl⟩
                rw [hwz] at HZ9 HB9 HO9 ⊢
                have hSz2 : wz.heap[w1.heap.size]? = w3.heap[w1.heap.size]? := by rw [← hwz]; exact hSz _ hl3
                obtain ⟨az, haz⟩ : ∃ az : Pla, az = { a1 with pa := some ⟨g4, 0, none⟩, pc := cg4 } := ⟨_, rfl⟩
                obtain ⟨cz, hcz⟩ : ∃ cz : List Value, cz = c1.set 13 (.slice (some ⟨g4, 0, none⟩) (s.np + 1) cg4) := ⟨_, rfl⟩
                have HXz := Lib.hid (hSz2.trans HX3.out)
                have HYz := Lib.hid ((HB9.block _ hlyy).trans HYy.out)
                have HZz := Lib.hid (show wz.heap[wy.heap.size]? = some (.cells cz.toArray 50 (0, 0)) by rw [HZ9, hcz]; simp)
                have HTy := Lib.hid (HTy0.out.on HB9)
                have HSz := Lib.hid (HSy.out.on HB9)
                have HTz := Lib.hid (show ScAt wz (moreP s) az by rw [haz]; exact more_at HSz.out hp32 HO9 hnp0)
                have HWz := Lib.hid (HWy.out.trans (HB9.mono HWy.out.size))
                have hlyz := Nat.lt_of_lt_of_le hlyy HB9.size
                have hlzz : wy.heap.size < wz.heap.size := (lt_of_heap HZ9)
                have HCz := Lib.hid (show cz.toArray = SC (moreP s) az by rw [hcz, haz, HL1.out]; rfl)
                have HEz := Lib.hid (show SV (moreP s) az = .agg cz.toArray by rw [HCz.out])
                have HOKz := Lib.hid (more_ok HOK.out hnp0 hp32)
                clear hwz hcz haz HZ9 HO9 HB9
                go_upto_region 13 with fail
                have hwB := Lib.hid (heap_alloc_last wz (.cells c1.toArray 50))
                have hy4 : (wz.alloc (.cells c1.toArray 50)).cell? ⟨wz.heap.size, 4, none⟩ = some (.int .i64 s.fr) := by rw [cell_of_row _ _ 4 _ _ _ hwB.out, HC1.out]; rfl
                have hyf4 : (wz.alloc (.cells c1.toArray 50)).frozen? ⟨wz.heap.size, 4, none⟩ = false := frozen0 hwB.out 4
                obtain ⟨cw, hcw⟩ : ∃ cw, cw = c1.set 4 (.int .i64 1) := ⟨_, rfl⟩
                have HCW := Lib.hid (show cw.toArray = SC (oneF s) a1 by rw [hcw, HL1.out]; rfl)
                have HEw := Lib.hid (show SV (oneF s) a1 = .agg cw.toArray by rw [HCW.out])
                have HZy := Lib.hid (show (Try.prog.info? 50).map (·.size) = some cy.toArray.size by rw [HCy.out]; kernel_rfl)
                have HZz2 := Lib.hid (show (Try.prog.info? 50).map (·.size) = some cz.toArray.size by rw [HCz.out]; kernel_rfl)
                have HZw := Lib.hid (show (Try.prog.info? 50).map (·.size) = some cw.toArray.size by rw [HCW.out]; kernel_rfl)
                go_upto_region 15 with (first | (with_reducible refine wpList_load_row rfl 50 (.tmp 3) rfl w1.heap.size rfl 50 c1.toArray (0, 0) _ HXz.out Try.underlying50 rfl HZ1.out ?_) | (with_reducible refine Re.wpList_store_new rfl 50 (.tmp 10) (.tmp 67) rfl wz ZSc c1.toArray wz.heap.size rfl rfl rfl HZ1.out HZ2.out HZ3.out ?_))
                try rw [← hcw]
                have hbw := below_n1 wz (.cells cw.toArray 50)
                have hwW := Lib.hid (heap_alloc_last wz (.cells cw.toArray 50))
                obtain ⟨wv, hwv⟩ : ∃ wv, wz.alloc (.cells cw.toArray 50) = wv := ⟨_, rfl⟩
                rw [hwv] at hbw hwW ⊢
                have HY5 := Lib.hid ((hbw.block _ hlyz).trans HYz.out)
                have HZ5 := Lib.hid ((hbw.block _ hlzz).trans HZz.out)
                have HT5y := Lib.hid (HTy.out.on hbw)
                have HT5z := Lib.hid (HTz.out.on hbw)
                have HT5w := Lib.hid ((HSz.out.on hbw).one)
                have HW5 := Lib.hid (HWz.out.trans (hbw.mono HWz.out.size))
                have hl5y := Nat.lt_of_lt_of_le hlyz hbw.size
                have hl5z := Nat.lt_of_lt_of_le hlzz hbw.size
                have hl5w : wz.heap.size < wv.heap.size := by rw [← hwv]; simp
                clear hbw hwv hcw hwB hy4 hyf4
                go_wp2_with (first | (with_reducible refine wpList_load_row rfl 50 (.tmp 6) rfl w3.heap.size rfl 50 cy.toArray (0, 0) _ HY5.out Try.underlying50 rfl HZy.out ?_))
                rw [← HEy.out]
                refine (check_zero (less_ok HOK.out) _ HT5y.out).mono ?_
                rintro e w6 ⟨⟨p6, rfl⟩, hb6⟩
                rw [HEy.out]
                have HZ6 := Lib.hid ((hb6.block _ hl5z).trans HZ5.out)
                have HT6z := Lib.hid (HT5z.out.on hb6)
                have HW6 := Lib.hid (HW5.out.trans (hb6.mono HW5.out.size))
                have hwW6 := Lib.hid ((hb6.block _ hl5w).trans hwW.out)
                have HT6w := Lib.hid (HT5w.out.on hb6)
                have hl6z := Nat.lt_of_lt_of_le hl5z hb6.size
                have hl6w := Nat.lt_of_lt_of_le hl5w hb6.size
                clear hb6
                go_wp2_with (first | (with_reducible refine wpList_load_row rfl 50 (.tmp 8) rfl wy.heap.size rfl 50 cz.toArray (0, 0) _ HZ6.out Try.underlying50 rfl HZz2.out ?_))
                rw [← HEz.out]
                refine (check_zero HOKz.out _ HT6z.out).mono ?_
                rintro e w7 ⟨⟨p7, rfl⟩, hb7⟩
                rw [HEz.out]
                have HW7 := Lib.hid (HW6.out.trans (hb7.mono HW6.out.size))
                have hwW7 := Lib.hid ((hb7.block _ hl6w).trans hwW6.out)
                have HT7w := Lib.hid (HT6w.out.on hb7)
                clear hb7
                go_wp2_with (first | (with_reducible refine wpList_load_row rfl 50 (.tmp 10) rfl wz.heap.size rfl 50 cw.toArray (0, 0) _ hwW7.out Try.underlying50 rfl HZw.out ?_))
                rw [← HEw.out]
                refine (check_zero (oneF_ok HOK.out) _ HT7w.out).mono ?_
                rintro e w8 ⟨⟨p8, rfl⟩, hb8⟩
                rw [HEw.out]
                have HW8 := Lib.hid (HW7.out.trans (hb8.mono HW7.out.size))
                clear hb8
                go_wp2_with fail
                refine (awake_any _).mono ?_
                rintro e w9 ⟨rfl, hb9⟩
                have HW9 := Lib.hid (HW8.out.trans (hb9.mono HW8.out.size))
                go_wp2
                go_ret
                exact ⟨rfl, HW9.out⟩
            · skip
              go_simp
              have hb1 := below_n1 y0 (.cells #[.int .i64 (s.P ((s.np - 1) * 5)), .int .i64 (s.P ((s.np - 1) * 5 + 1)), .int .i64 (s.P ((s.np - 1) * 5 + 2)), .int .i64 (s.P ((s.np - 1) * 5 + 3)), .int .i64 (s.P ((s.np - 1) * 5 + 4))] 76)
              have hz1 : w3.heap.size ≤ (y0.alloc (.cells #[.int .i64 (s.P ((s.np - 1) * 5)), .int .i64 (s.P ((s.np - 1) * 5 + 1)), .int .i64 (s.P ((s.np - 1) * 5 + 2)), .int .i64 (s.P ((s.np - 1) * 5 + 3)), .int .i64 (s.P ((s.np - 1) * 5 + 4))] 76)).heap.size := Nat.le_trans hz0 hb1.size
              have HB1 := HB0.trans (hb1.mono HB0.size)
              have HQ1 := (hb1.block _ lq0).trans HQ0
              have lq1 := Nat.lt_of_lt_of_le lq0 hb1.size
              have hs1 : (y0.alloc (.cells #[.int .i64 (s.P ((s.np - 1) * 5)), .int .i64 (s.P ((s.np - 1) * 5 + 1)), .int .i64 (s.P ((s.np - 1) * 5 + 2)), .int .i64 (s.P ((s.np - 1) * 5 + 3)), .int .i64 (s.P ((s.np - 1) * 5 + 4))] 76)).heap.size = y0.heap.size + 1 := by rw [World.size_alloc]
              have hN1 : (y0.alloc (.cells #[.int .i64 (s.P ((s.np - 1) * 5)), .int .i64 (s.P ((s.np - 1) * 5 + 1)), .int .i64 (s.P ((s.np - 1) * 5 + 2)), .int .i64 (s.P ((s.np - 1) * 5 + 3)), .int .i64 (s.P ((s.np - 1) * 5 + 4))] 76)).heap[y0.heap.size]? = some (.cells #[.int .i64 (s.P ((s.np - 1) * 5)), .int .i64 (s.P ((s.np - 1) * 5 + 1)), .int .i64 (s.P ((s.np - 1) * 5 + 2)), .int .i64 (s.P ((s.np - 1) * 5 + 3)), .int .i64 (s.P ((s.np - 1) * 5 + 4))] 76 (0, 0)) := by have h := heap_alloc_last y0 (.cells #[.int .i64 (s.P ((s.np - 1) * 5)), .int .i64 (s.P ((s.np - 1) * 5 + 1)), .int .i64 (s.P ((s.np - 1) * 5 + 2)), .int .i64 (s.P ((s.np - 1) * 5 + 3)), .int .i64 (s.P ((s.np - 1) * 5 + 4))] 76); exact h
              have lN1 : y0.heap.size < (y0.alloc (.cells #[.int .i64 (s.P ((s.np - 1) * 5)), .int .i64 (s.P ((s.np - 1) * 5 + 1)), .int .i64 (s.P ((s.np - 1) * 5 + 2)), .int .i64 (s.P ((s.np - 1) * 5 + 3)), .int .i64 (s.P ((s.np - 1) * 5 + 4))] 76)).heap.size := lt_of_heap hN1
              have lb1 : wy.heap.size + 1 ≤ (y0.alloc (.cells #[.int .i64 (s.P ((s.np - 1) * 5)), .int .i64 (s.P ((s.np - 1) * 5 + 1)), .int .i64 (s.P ((s.np - 1) * 5 + 2)), .int .i64 (s.P ((s.np - 1) * 5 + 3)), .int .i64 (s.P ((s.np - 1) * 5 + 4))] 76)).heap.size := Nat.le_trans lb0 hb1.size
              refine hK.out _ _ (fun k hk => (hb1.block k (Nat.lt_of_lt_of_le hk hz0)).trans (hS0 k hk)) (fun hS1 => ?_)
              clear hK K
              refine wpAnyH_ready (rs := [0]) (by kernel_rfl) (by simp) ?_
              refine AllReadyH.cons rfl (fun K hK => ?_) AllReadyH.nil
              go_simp
              have hb2 := below_n1 (y0.alloc (.cells #[.int .i64 (s.P ((s.np - 1) * 5)), .int .i64 (s.P ((s.np - 1) * 5 + 1)), .int .i64 (s.P ((s.np - 1) * 5 + 2)), .int .i64 (s.P ((s.np - 1) * 5 + 3)), .int .i64 (s.P ((s.np - 1) * 5 + 4))] 76)) (.cells #[] 76)
              have hz2 : w3.heap.size ≤ ((y0.alloc (.cells #[.int .i64 (s.P ((s.np - 1) * 5)), .int .i64 (s.P ((s.np - 1) * 5 + 1)), .int .i64 (s.P ((s.np - 1) * 5 + 2)), .int .i64 (s.P ((s.np - 1) * 5 + 3)), .int .i64 (s.P ((s.np - 1) * 5 + 4))] 76)).alloc (.cells #[] 76)).heap.size := Nat.le_trans hz1 hb2.size
              have HB2 := HB1.trans (hb2.mono HB1.size)
              have HQ2 := (hb2.block _ lq1).trans HQ1
              have lq2 := Nat.lt_of_lt_of_le lq1 hb2.size
              have hs2 : ((y0.alloc (.cells #[.int .i64 (s.P ((s.np - 1) * 5)), .int .i64 (s.P ((s.np - 1) * 5 + 1)), .int .i64 (s.P ((s.np - 1) * 5 + 2)), .int .i64 (s.P ((s.np - 1) * 5 + 3)), .int .i64 (s.P ((s.np - 1) * 5 + 4))] 76)).alloc (.cells #[] 76)).heap.size = (y0.alloc (.cells #[.int .i64 (s.P ((s.np - 1) * 5)), .int .i64 (s.P ((s.np - 1) * 5 + 1)), .int .i64 (s.P ((s.np - 1) * 5 + 2)), .int .i64 (s.P ((s.np - 1) * 5 + 3)), .int .i64 (s.P ((s.np - 1) * 5 + 4))] 76)).heap.size + 1 := by rw [World.size_alloc]
              have hO2 := World.ownsRow_lit (base := wy.heap.size + 1) (size := 5) (y0.alloc (.cells #[.int .i64 (s.P ((s.np - 1) * 5)), .int .i64 (s.P ((s.np - 1) * 5 + 1)), .int .i64 (s.P ((s.np - 1) * 5 + 2)), .int .i64 (s.P ((s.np - 1) * 5 + 3)), .int .i64 (s.P ((s.np - 1) * 5 + 4))] 76)) #[] 0 (e := 76) lb1 (by unfold maxLen; omega) rfl
              try rw [World.size_alloc] at hO2
              have hN2 := (hb2.block _ lN1).trans hN1
              have lN2 := Nat.lt_of_lt_of_le lN1 hb2.size
              have neN2 : y0.heap.size ≠ (y0.alloc (.cells #[.int .i64 (s.P ((s.np - 1) * 5)), .int .i64 (s.P ((s.np - 1) * 5 + 1)), .int .i64 (s.P ((s.np - 1) * 5 + 2)), .int .i64 (s.P ((s.np - 1) * 5 + 3)), .int .i64 (s.P ((s.np - 1) * 5 + 4))] 76)).heap.size := Nat.ne_of_lt lN1
              try rw [World.size_alloc] at neN2
              have lb2 : wy.heap.size + 1 ≤ ((y0.alloc (.cells #[.int .i64 (s.P ((s.np - 1) * 5)), .int .i64 (s.P ((s.np - 1) * 5 + 1)), .int .i64 (s.P ((s.np - 1) * 5 + 2)), .int .i64 (s.P ((s.np - 1) * 5 + 3)), .int .i64 (s.P ((s.np - 1) * 5 + 4))] 76)).alloc (.cells #[] 76)).heap.size := Nat.le_trans lb1 hb2.size
              refine hK.out _ _ (fun k hk => (hb2.block k (Nat.lt_of_lt_of_le hk hz1)).trans (hS1 k hk)) (fun hS2 => ?_)
              clear hK K
              refine wpAnyH_ready (rs := [3]) (by kernel_rfl) (by simp) ?_
              refine AllReadyH.cons rfl (fun K hK => ?_) AllReadyH.nil
              have hnews3 : ∀ j u, (fl 5 s.P s.np)[j]? = some u → ((y0.alloc (.cells #[.int .i64 (s.P ((s.np - 1) * 5)), .int .i64 (s.P ((s.np - 1) * 5 + 1)), .int .i64 (s.P ((s.np - 1) * 5 + 2)), .int .i64 (s.P ((s.np - 1) * 5 + 3)), .int .i64 (s.P ((s.np - 1) * 5 + 4))] 76)).alloc (.cells #[] 76)).cell? ((⟨b4, off4, none⟩ : Addr).add j) = some u := by
                intro j u hj
                have hj5 : j < s.np * 5 := by
                  rcases Nat.lt_or_ge j (s.np * 5) with h' | h'
                  · exact h'
                  · rw [List.getElem?_eq_none (by simp [fl]; omega)] at hj; cases hj
                rw [fl_at 5 s.P s.np j hj5] at hj
                cases hj
                rw [Addr.add_mid]
                exact (World.cell?_of_block (a := ⟨b4, off4 + j, none⟩) (hS2 b4 hb4)).trans (hpc j hj5)
              refine step_append_lies _ rfl _ _ 45 rfl (wy.heap.size + 1) 76 ip (.agg #[.int .i64 0, .int .i64 0, .int .i64 0, .int .i64 0, .int .i64 0]) 5 40 Try.underlying45 hip hz0p hz1p hz2p rfl (by decide) _ _ _ rfl hO2 ⟨b4, off4, none⟩ s.np a1.pc (fl 5 s.P s.np) rfl (by simp [fl]) hnews3 (fl_one 5 s.P s.np) hnp0 (by unfold maxLen; omega) (by omega) lb2 _ rfl ?_
              intro g3 cg3 u3 ho3 hg3 hk3 hlx3
              have hz3 : w3.heap.size ≤ u3.heap.size := Nat.le_trans hz2 hg3.size
              have HB3 := HB2.grown hg3 HB2.size (fun q hq => by have := (hO2.lt q hq).1; omega)
              have HQ3 := (hg3.block wy.heap.size lq2 (fun e => by have := (hO2.lt _ e.symm).1; omega)).trans HQ2
              have lq3 := Nat.lt_of_lt_of_le lq2 hg3.size
              have lb3 : wy.heap.size + 1 ≤ u3.heap.size := Nat.le_trans lb2 hg3.size
              rw [Nat.zero_add, List.nil_append] at ho3
              simp only [Nat.zero_add]
              have hN3 := (hg3.block _ lN2 (fun e => neN2 (Option.some.inj e))).trans hN2
              have lN3 := Nat.lt_of_lt_of_le lN2 hg3.size
              refine hK.out _ _ (fun k hk => (hg3.block k (Nat.lt_of_lt_of_le hk hz2) (fun e => by have := (hO2.lt _ e.symm).1; have := hlyy; omega)).trans (hS2 k hk)) (fun hS3 => ?_)
              clear hK K
              refine wpAnyH_ready (rs := [11]) (by kernel_rfl) (by simp) ?_
              refine AllReadyH.cons rfl (fun K hK => ?_) AllReadyH.nil
              have hnews4 := World.news_of_block hN3
              refine step_append_lies _ rfl _ _ 45 rfl (wy.heap.size + 1) 76 ip (.agg #[.int .i64 0, .int .i64 0, .int .i64 0, .int .i64 0, .int .i64 0]) 5 40 Try.underlying45 hip hz0p hz1p hz2p rfl (by decide) _ _ _ rfl ho3 ⟨y0.heap.size, 0, none⟩ 1 1 [.int .i64 (s.P ((s.np - 1) * 5)), .int .i64 (s.P ((s.np - 1) * 5 + 1)), .int .i64 (s.P ((s.np - 1) * 5 + 2)), .int .i64 (s.P ((s.np - 1) * 5 + 3)), .int .i64 (s.P ((s.np - 1) * 5 + 4))] rfl rfl hnews4 (by intro u hu; simp at hu; rcases hu with rfl | rfl | rfl | rfl | rfl <;> rfl) (by omega) (by unfold maxLen; omega) (by omega) lb3 _ rfl ?_
              intro g4 cg4 u4 ho4 hg4 hk4 hlx4
              have hz4 : w3.heap.size ≤ u4.heap.size := Nat.le_trans hz3 hg4.size
              have HB4 := HB3.grown hg4 HB3.size (fun q hq => by have := (ho3.lt q hq).1; omega)
              have HQ4 := (hg4.block wy.heap.size lq3 (fun e => by have := (ho3.lt _ e.symm).1; omega)).trans HQ3
              have lq4 := Nat.lt_of_lt_of_le lq3 hg4.size
              have lb4 : wy.heap.size + 1 ≤ u4.heap.size := Nat.le_trans lb3 hg4.size
              refine hK.out _ _ (fun k hk => (hg4.block k (Nat.lt_of_lt_of_le hk hz3) (fun e => by have := (ho3.lt _ e.symm).1; have := hlyy; omega)).trans (hS3 k hk)) (fun hS4 => ?_)
              clear hK K
              refine wpAnyH_take (i := 12) (v := ?_) rfl (by kernel_rfl) (by kernel_rfl) (by kernel_rfl) (fun _ _ _ h => h) (Or.inl ⟨by kernel_rfl, by (intro wz hSz; go_simp; try with_reducible rfl)⟩) hS4 ?_
              go_simp
              refine wpAnyH_ready (rs := [13]) (by kernel_rfl) (by simp) ?_
              refine AllReadyH.cons rfl (fun K hK => ?_) AllReadyH.nil
              have o13 : u4.cell? ⟨wy.heap.size, 13, none⟩ = some (.slice a1.pa s.np a1.pc) := by rw [cell_of_row _ _ 13 _ _ _ HQ4, HC1.out]; rfl
              have fz13 := frozen0 HQ4 13
              go_simp
              refine hK.out _ _ (fun k hk => (Below.heap_setCell _ _ _ _ (by have := hlyy; show k ≠ wy.heap.size; omega)).trans (hS4 k hk)) (fun hSz => ?_)
              clear hK K
              refine wpAnyH_done (by kernel_rfl) ?_ _
              have HZ9 := heap_setCell_same u4 wy.heap.size 13 _ _ (.slice (some ⟨g4, 0, none⟩) (s.np + 1) cg4) HQ4
              have HB9 : Below wy.heap.size wy (u4.setCell ⟨wy.heap.size, 13, none⟩ (.slice (some ⟨g4, 0, none⟩) (s.np + 1) cg4)) := HB4.setCell (Nat.le_refl _) _
              have HO9 := ownsRow_setCell_below ho4 (a := ⟨wy.heap.size, 13, none⟩) (by show wy.heap.size < wy.heap.size + 1; omega) (.slice (some ⟨g4, 0, none⟩) (s.np + 1) cg4)
              obtain ⟨wz, hwz⟩ : ∃ wz, u4.setCell ⟨wy.heap.size, 13, none⟩ (.slice (some ⟨g4, 0, none⟩) (s.np + 1) cg4) = wz := ⟨_, rfl⟩
              rw [hwz] at HZ9 HB9 HO9 ⊢
              have hSz2 : wz.heap[w1.heap.size]? = w3.heap[w1.heap.size]? := by rw [← hwz]; exact hSz _ hl3
              obtain ⟨az, haz⟩ : ∃ az : Pla, az = { a1 with pa := some ⟨g4, 0, none⟩, pc := cg4 } := ⟨_, rfl⟩
              obtain ⟨cz, hcz⟩ : ∃ cz : List Value, cz = c1.set 13 (.slice (some ⟨g4, 0, none⟩) (s.np + 1) cg4) := ⟨_, rfl⟩
              have HXz := Lib.hid (hSz2.trans HX3.out)
              have HYz := Lib.hid ((HB9.block _ hlyy).trans HYy.out)
              have HZz := Lib.hid (show wz.heap[wy.heap.size]? = some (.cells cz.toArray 50 (0, 0)) by rw [HZ9, hcz]; simp)
              have HTy := Lib.hid (HTy0.out.on HB9)
              have HSz := Lib.hid (HSy.out.on HB9)
              have HTz := Lib.hid (show ScAt wz (moreP s) az by rw [haz]; exact more_at HSz.out hp32 HO9 hnp0)
              have HWz := Lib.hid (HWy.out.trans (HB9.mono HWy.out.size))
              have hlyz := Nat.lt_of_lt_of_le hlyy HB9.size
              have hlzz : wy.heap.size < wz.heap.size := (lt_of_heap HZ9)
              have HCz := Lib.hid (show cz.toArray = SC (moreP s) az by rw [hcz, haz, HL1.out]; rfl)
              have HEz := Lib.hid (show SV (moreP s) az = .agg cz.toArray by rw [HCz.out])
              have HOKz := Lib.hid (more_ok HOK.out hnp0 hp32)
              clear hwz hcz haz HZ9 HO9 HB9
              go_upto_region 13 with fail
              have hwB := Lib.hid (heap_alloc_last wz (.cells c1.toArray 50))
              have hy4 : (wz.alloc (.cells c1.toArray 50)).cell? ⟨wz.heap.size, 4, none⟩ = some (.int .i64 s.fr) := by rw [cell_of_row _ _ 4 _ _ _ hwB.out, HC1.out]; rfl
              have hyf4 : (wz.alloc (.cells c1.toArray 50)).frozen? ⟨wz.heap.size, 4, none⟩ = false := frozen0 hwB.out 4
              obtain ⟨cw, hcw⟩ : ∃ cw, cw = c1.set 4 (.int .i64 1) := ⟨_, rfl⟩
              have HCW := Lib.hid (show cw.toArray = SC (oneF s) a1 by rw [hcw, HL1.out]; rfl)
              have HEw := Lib.hid (show SV (oneF s) a1 = .agg cw.toArray by rw [HCW.out])
              have HZy := Lib.hid (show (Try.prog.info? 50).map (·.size) = some cy.toArray.size by rw [HCy.out]; kernel_rfl)
              have HZz2 := Lib.hid (show (Try.prog.info? 50).map (·.size) = some cz.toArray.size by rw [HCz.out]; kernel_rfl)
              have HZw := Lib.hid (show (Try.prog.info? 50).map (·.size) = some cw.toArray.size by rw [HCW.out]; kernel_rfl)
              go_upto_region 15 with (first | (with_reducible refine wpList_load_row rfl 50 (.tmp 3) rfl w1.heap.size rfl 50 c1.toArray (0, 0) _ HXz.out Try.underlying50 rfl HZ1.out ?_) | (with_reducible refine Re.wpList_store_new rfl 50 (.tmp 10) (.tmp 67) rfl wz ZSc c1.toArray wz.heap.size rfl rfl rfl HZ1.out HZ2.out HZ3.out ?_))
              try rw [← hcw]
              have hbw := below_n1 wz (.cells cw.toArray 50)
              have hwW := Lib.hid (heap_alloc_last wz (.cells cw.toArray 50))
              obtain ⟨wv, hwv⟩ : ∃ wv, wz.alloc (.cells cw.toArray 50) = wv := ⟨_, rfl⟩
              rw [hwv] at hbw hwW ⊢
              have HY5 := Lib.hid ((hbw.block _ hlyz).trans HYz.out)
              have HZ5 := Lib.hid ((hbw.block _ hlzz).trans HZz.out)
              have HT5y := Lib.hid (HTy.out.on hbw)
              have HT5z := Lib.hid (HTz.out.on hbw)
              have HT5w := Lib.hid ((HSz.out.on hbw).one)
              have HW5 := Lib.hid (HWz.out.trans (hbw.mono HWz.out.size))
              have hl5y := Nat.lt_of_lt_of_le hlyz hbw.size
              have hl5z := Nat.lt_of_lt_of_le hlzz hbw.size
              have hl5w : wz.heap.size < wv.heap.size := by rw [← hwv]; simp
              clear hbw hwv hcw hwB hy4 hyf4
              go_wp2_with (first | (with_reducible refine wpList_load_row rfl 50 (.tmp 6) rfl w3.heap.size rfl 50 cy.toArray (0, 0) _ HY5.out Try.underlying50 rfl HZy.out ?_))
              rw [← HEy.out]
              refine (check_zero (less_ok HOK.out) _ HT5y.out).mono ?_
              rintro e w6 ⟨⟨p6, rfl⟩, hb6⟩
              rw [HEy.out]
              have HZ6 := Lib.hid ((hb6.block _ hl5z).trans HZ5.out)
              have HT6z := Lib.hid (HT5z.out.on hb6)
              have HW6 := Lib.hid (HW5.out.trans (hb6.mono HW5.out.size))
              have hwW6 := Lib.hid ((hb6.block _ hl5w).trans hwW.out)
              have HT6w := Lib.hid (HT5w.out.on hb6)
              have hl6z := Nat.lt_of_lt_of_le hl5z hb6.size
              have hl6w := Nat.lt_of_lt_of_le hl5w hb6.size
              clear hb6
              go_wp2_with (first | (with_reducible refine wpList_load_row rfl 50 (.tmp 8) rfl wy.heap.size rfl 50 cz.toArray (0, 0) _ HZ6.out Try.underlying50 rfl HZz2.out ?_))
              rw [← HEz.out]
              refine (check_zero HOKz.out _ HT6z.out).mono ?_
              rintro e w7 ⟨⟨p7, rfl⟩, hb7⟩
              rw [HEz.out]
              have HW7 := Lib.hid (HW6.out.trans (hb7.mono HW6.out.size))
              have hwW7 := Lib.hid ((hb7.block _ hl6w).trans hwW6.out)
              have HT7w := Lib.hid (HT6w.out.on hb7)
              clear hb7
              go_wp2_with (first | (with_reducible refine wpList_load_row rfl 50 (.tmp 10) rfl wz.heap.size rfl 50 cw.toArray (0, 0) _ hwW7.out Try.underlying50 rfl HZw.out ?_))
              rw [← HEw.out]
              refine (check_zero (oneF_ok HOK.out) _ HT7w.out).mono ?_
              rintro e w8 ⟨⟨p8, rfl⟩, hb8⟩
              rw [HEw.out]
              have HW8 := Lib.hid (HW7.out.trans (hb8.mono HW7.out.size))
              clear hb8
              go_wp2_with fail
              refine (awake_any _).mono ?_
              rintro e w9 ⟨rfl, hb9⟩
              have HW9 := Lib.hid (HW8.out.trans (hb9.mono HW8.out.size))
              go_wp2
              go_ret
              exact ⟨rfl, HW9.out⟩
          · have hp32' : ¬ (s.np : Int) < 32 := by omega
            go_upto_region 13 with (first | (with_reducible refine wpList_load_row rfl 50 (.tmp 3) rfl w1.heap.size rfl 50 c1.toArray (0, 0) _ HXy.out Try.underlying50 rfl HZ1.out ?_) | (with_reducible refine Re.wpList_store_new rfl 50 (.tmp 8) (.tmp 44) rfl wy ZSc c1.toArray wy.heap.size rfl rfl rfl HZ1.out HZ2.out HZ3.out ?_))
            have hbz := below_n1 wy (.cells c1.toArray 50)
            have HZz := Lib.hid (heap_alloc_last wy (.cells c1.toArray 50))
            obtain ⟨wz, hwz⟩ : ∃ wz, wy.alloc (.cells c1.toArray 50) = wz := ⟨_, rfl⟩
            rw [hwz] at hbz HZz ⊢
            have HXz := Lib.hid ((hbz.block _ hlxy).trans HXy.out)
            have HYz := Lib.hid ((hbz.block _ hlyy).trans HYy.out)
            have HTy := Lib.hid (HTy0.out.on hbz)
            have HTz := Lib.hid (HSy.out.on hbz)
            have HSz := HTz
            have HWz := Lib.hid (HWy.out.trans (hbz.mono HWy.out.size))
            have hlyz := Nat.lt_of_lt_of_le hlyy hbz.size
            have hlzz : wy.heap.size < wz.heap.size := by rw [← hwz]; simp
            obtain ⟨cz, hcz⟩ : ∃ cz : List Value, cz = c1 := ⟨_, rfl⟩
            rw [← hcz] at HZz
            have HCz := Lib.hid (show cz.toArray = SC s a1 by rw [hcz]; exact HC1.out)
            have HEz := Lib.hid (show SV s a1 = .agg cz.toArray by rw [HCz.out])
            have HOKz := HOK
            clear hbz hwz hcz
            have hwB := Lib.hid (heap_alloc_last wz (.cells c1.toArray 50))
            have hy4 : (wz.alloc (.cells c1.toArray 50)).cell? ⟨wz.heap.size, 4, none⟩ = some (.int .i64 s.fr) := by rw [cell_of_row _ _ 4 _ _ _ hwB.out, HC1.out]; rfl
            have hyf4 : (wz.alloc (.cells c1.toArray 50)).frozen? ⟨wz.heap.size, 4, none⟩ = false := frozen0 hwB.out 4
            obtain ⟨cw, hcw⟩ : ∃ cw, cw = c1.set 4 (.int .i64 1) := ⟨_, rfl⟩
            have HCW := Lib.hid (show cw.toArray = SC (oneF s) a1 by rw [hcw, HL1.out]; rfl)
            have HEw := Lib.hid (show SV (oneF s) a1 = .agg cw.toArray by rw [HCW.out])
            have HZy := Lib.hid (show (Try.prog.info? 50).map (·.size) = some cy.toArray.size by rw [HCy.out]; kernel_rfl)
            have HZz2 := Lib.hid (show (Try.prog.info? 50).map (·.size) = some cz.toArray.size by rw [HCz.out]; kernel_rfl)
            have HZw := Lib.hid (show (Try.prog.info? 50).map (·.size) = some cw.toArray.size by rw [HCW.out]; kernel_rfl)
            go_upto_region 15 with (first | (with_reducible refine wpList_load_row rfl 50 (.tmp 3) rfl w1.heap.size rfl 50 c1.toArray (0, 0) _ HXz.out Try.underlying50 rfl HZ1.out ?_) | (with_reducible refine Re.wpList_store_new rfl 50 (.tmp 10) (.tmp 67) rfl wz ZSc c1.toArray wz.heap.size rfl rfl rfl HZ1.out HZ2.out HZ3.out ?_))
            try rw [← hcw]
            have hbw := below_n1 wz (.cells cw.toArray 50)
            have hwW := Lib.hid (heap_alloc_last wz (.cells cw.toArray 50))
            obtain ⟨wv, hwv⟩ : ∃ wv, wz.alloc (.cells cw.toArray 50) = wv := ⟨_, rfl⟩
            rw [hwv] at hbw hwW ⊢
            have HY5 := Lib.hid ((hbw.block _ hlyz).trans HYz.out)
            have HZ5 := Lib.hid ((hbw.block _ hlzz).trans HZz.out)
            have HT5y := Lib.hid (HTy.out.on hbw)
            have HT5z := Lib.hid (HTz.out.on hbw)
            have HT5w := Lib.hid ((HSz.out.on hbw).one)
            have HW5 := Lib.hid (HWz.out.trans (hbw.mono HWz.out.size))
            have hl5y := Nat.lt_of_lt_of_le hlyz hbw.size
            have hl5z := Nat.lt_of_lt_of_le hlzz hbw.size
            have hl5w : wz.heap.size < wv.heap.size := by rw [← hwv]; simp
            clear hbw hwv hcw hwB hy4 hyf4
            go_wp2_with (first | (with_reducible refine wpList_load_row rfl 50 (.tmp 6) rfl w3.heap.size rfl 50 cy.toArray (0, 0) _ HY5.out Try.underlying50 rfl HZy.out ?_))
            rw [← HEy.out]
            refine (check_zero (less_ok HOK.out) _ HT5y.out).mono ?_
            rintro e w6 ⟨⟨p6, rfl⟩, hb6⟩
            rw [HEy.out]
            have HZ6 := Lib.hid ((hb6.block _ hl5z).trans HZ5.out)
            have HT6z := Lib.hid (HT5z.out.on hb6)
            have HW6 := Lib.hid (HW5.out.trans (hb6.mono HW5.out.size))
            have hwW6 := Lib.hid ((hb6.block _ hl5w).trans hwW.out)
            have HT6w := Lib.hid (HT5w.out.on hb6)
            have hl6z := Nat.lt_of_lt_of_le hl5z hb6.size
            have hl6w := Nat.lt_of_lt_of_le hl5w hb6.size
            clear hb6
            go_wp2_with (first | (with_reducible refine wpList_load_row rfl 50 (.tmp 8) rfl wy.heap.size rfl 50 cz.toArray (0, 0) _ HZ6.out Try.underlying50 rfl HZz2.out ?_))
            rw [← HEz.out]
            refine (check_zero HOKz.out _ HT6z.out).mono ?_
            rintro e w7 ⟨⟨p7, rfl⟩, hb7⟩
            rw [HEz.out]
            have HW7 := Lib.hid (HW6.out.trans (hb7.mono HW6.out.size))
            have hwW7 := Lib.hid ((hb7.block _ hl6w).trans hwW6.out)
            have HT7w := Lib.hid (HT6w.out.on hb7)
            clear hb7
            go_wp2_with (first | (with_reducible refine wpList_load_row rfl 50 (.tmp 10) rfl wz.heap.size rfl 50 cw.toArray (0, 0) _ hwW7.out Try.underlying50 rfl HZw.out ?_))
            rw [← HEw.out]
            refine (check_zero (oneF_ok HOK.out) _ HT7w.out).mono ?_
            rintro e w8 ⟨⟨p8, rfl⟩, hb8⟩
            rw [HEw.out]
            have HW8 := Lib.hid (HW7.out.trans (hb8.mono HW7.out.size))
            clear hb8
            go_wp2_with fail
            refine (awake_any _).mono ?_
            rintro e w9 ⟨rfl, hb9⟩
            have HW9 := Lib.hid (HW8.out.trans (hb9.mono HW8.out.size))
            go_wp2
            go_ret
            exact ⟨rfl, HW9.out⟩
    · go_wp2_with fail
      refine (awake_any _).mono ?_
      rintro e w4 ⟨rfl, hb4⟩
      go_wp2
      go_ret
      exact ⟨rfl, HW3.out.trans (hb4.mono HW3.out.size)⟩

end Go.Proofs.Ytpekhjlgcjhlgaa.Sc
