/- Layer 7: the contracts of the document's own reader: its end, its three numbers. -/
import Derived.Test.YtgkfoiekminfmaaC41
namespace Go.Proofs.Ytgkfoiekminfmaa.Re
open Go.RowKit Go.Proofs.Ytgkfoiekminfmaa Go.Proofs.Ytgkfoiekminfmaa.Rp
set_option linter.unusedVariables false

theorem mend_any (g N : Nat) (a : Option Addr) (n c : Nat) (lb : List UInt8) (s : St) (w : World) (h : MAt g N a n c lb s w) :
    Calls Try.prog 44 #[.pointer (some ⟨g, 0, none⟩)] w fun e w' => e = .returned (.int .i64 (endS s).2) ∧ MAt g N a n c lb (endS s) w' ∧ Aft g w.heap.size w w' := by
  by_cases hl : 0 < leftS s
  · obtain ⟨l, e0⟩ := s
    have he : e0 = 0 := by
      unfold leftS at hl
      by_cases hh : e0 = 0
      · exact hh
      · rw [if_pos hh] at hl; omega
    subst he
    have HE := Lib.hid (show endS (l, 0) = (l, 10) by unfold endS; rw [if_pos hl]; rfl)
    obtain ⟨z, hz⟩ : ∃ z, z = leftS (l, 0) := ⟨_, rfl⟩
    rw [← hz] at hl
    have HZ := Lib.hid hz
    clear hz
    go_enter Try.func44, Try.ntmps44
    go_wp2_with fail
    refine (mleft_any g N a n c lb (l, 0) _ h).mono ?_
    rintro e w1 ⟨rfl, hr, hA⟩
    rw [← HZ.out]
    have HR := Lib.hid (hr.setErr 10)
    have HA := Lib.hid (hA.setCell 2 (.int .i64 10))
    obtain ⟨c2, f2, -, hlt⟩ := hr.err
    simp only [] at c2
    clear hr hA h
    have hl' : (0 : Int) < z := by omega
    go_wp2
    go_ret
    exact ⟨by rw [HE.out]; rfl, by rw [HE.out]; exact HR.out, HA.out⟩
  · have HE := Lib.hid (show endS s = s by unfold endS; rw [if_neg hl])
    obtain ⟨z, hz⟩ : ∃ z, z = leftS s := ⟨_, rfl⟩
    rw [← hz] at hl
    have HZ := Lib.hid hz
    clear hz
    go_enter Try.func44, Try.ntmps44
    go_wp2_with fail
    refine (mleft_any g N a n c lb s _ h).mono ?_
    rintro e w1 ⟨rfl, hr, hA⟩
    rw [← HZ.out]
    obtain ⟨c2, f2, -, hlt⟩ := hr.err
    have HR := Lib.hid hr
    have HA := Lib.hid hA
    clear hr hA h
    have hl' : ¬ (0 : Int) < z := by omega
    go_wp2
    go_ret
    exact ⟨by rw [HE.out]; rfl, by rw [HE.out]; exact HR.out, HA.out⟩

theorem mfix_lit (g N : Nat) (a : Option Addr) (n c : Nat) (lb : List UInt8) (s : St) (k : Nat) (w : World) (h : MAt g N a n c lb (fixK s k) w) :
    Calls Try.prog 46 #[.pointer (some ⟨g, 0, none⟩)] w fun e w' => (∃ z, e = .returned (.int .i64 z) ∧ Hid (z = fixV s k)) ∧ MAt g N a n c lb (fixK s (k + 1)) w' ∧ Aft g w.heap.size w w' :=
  (mfix_any g N a n c lb (fixK s k) w h).mono fun _ _ ⟨h1, h2, h3⟩ => ⟨⟨_, h1, Lib.hid rfl⟩, h2, h3⟩

theorem MAt.new {g N : Nat} {a : Option Addr} {n c : Nat} {lb : List UInt8} {s : St} {w w' : World} (h : MAt g N a n c lb s w) (hb : Below w.heap.size w w') : MAt g N a n c lb s w' := h.on hb

set_option maxHeartbeats 2000000 in
theorem mvec_any (g N : Nat) (a : Option Addr) (n c : Nat) (lb : List UInt8) (s : St) (w : World) (h : MAt g N a n c lb s w) :
    Calls Try.prog 47 #[.pointer (some ⟨g, 0, none⟩)] w fun e w' => e = .returned (V3 ((threeS s).1 0) ((threeS s).1 1) ((threeS s).1 2)) ∧ MAt g N a n c lb (threeS s).2 w' ∧ Aft g w.heap.size w w' := by
  have HP := Lib.hid h
  have hg : g < w.heap.size := h.err.2.2.2
  clear h
  go_enter Try.func47, Try.ntmps47
  go_wp2_with fail
  go_loopw [4] (fun i wr => ∃ k : Nat, k ≤ 3 ∧ i = .int .i64 k ∧ Hid (MAt g N a n c lb (fixK s k) wr) ∧ Aft g w.heap.size w wr ∧ Hid (Bk (w.heap.size + 1) 3 (fun j => if j < k then fixV s j else 0) wr) ∧ Hid (Bk w.heap.size 3 (fun _ => 0) wr)) (fun i _ => 3 - (intOf i).toNat)
  case atStart => exact ⟨0, by omega, rfl, Lib.hid (HP.out.on (below_n2 _ _ _)), Aft.of (below_n2 _ _ _), Lib.hid ((bk_new1 w _ _).congr (fun j _ => by simp)), Lib.hid (bk_new0 w _ _)⟩
  case round =>
    obtain ⟨k, hk, rfl, HR, hA, H1, H0⟩ := hrel
    by_cases hlt : k < 3
    · have hlt' : (k : Int) < 3 := by omega
      have hs1 := H1.out.1
      go_wp2_with fail
      refine (mfix_lit g N a n c lb s k _ HR.out).mono ?_
      rintro e w1 ⟨⟨z, rfl, HZ⟩, hr1, ha1⟩
      have hs2 := ha1.size
      have hb1 := H1.out.aft ha1 (by omega)
      have hb0 := Lib.hid (H0.out.aft ha1 (by omega))
      have HR2 := Lib.hid ((hr1.setFar (b := w.heap.size + 1) (by omega) k (.int .i64 z)))
      have HB2 := Lib.hid ((hb1.put (i := k) hlt z).congr (f' := fun j => if j < k + 1 then fixV s j else 0) (fun j hj => by
        by_cases e : j = k
        · subst e; simp [HZ.out]
        · simp only [if_neg e]
          by_cases e2 : j < k
          · rw [if_pos e2, if_pos (by omega)]
          · rw [if_neg e2, if_neg (by omega)]))
      have HB0 := Lib.hid (hb0.out.far (c := w.heap.size + 1) (by omega) k (.int .i64 z))
      have hA2 := (hA.trans (ha1.mono hA.size)).setNew (b := w.heap.size + 1) (by omega) (by omega) k (.int .i64 z)
      have c0 := hb1.2.1 k hlt
      have f0 := hb1.2.2 k
      clear hb1 hr1 ha1
      go_wp2_with fail
      go_roundw
      case rel => exact ⟨k + 1, by omega, by go_num, HR2, hA2, HB2, HB0⟩
      case measure => simp [intOf]; omega
    · obtain rfl : k = 3 := by omega
      have hs1 := H1.out.1
      obtain ⟨t, ht⟩ : ∃ t, t = fixK s 3 := ⟨_, rfl⟩
      obtain ⟨o0, o1, o2, of0, of1, of2⟩ := H0.out.three
      obtain ⟨q0, q1, q2, -, -, -⟩ := (H1.out.congr (f' := fixV s) (fun j hj => if_pos hj)).three
      have HR3 := HR.out
      rw [← ht] at HR3
      obtain ⟨tl, te⟩ := t
      obtain ⟨c2, -, -, hl2⟩ := HR3.err
      simp only [] at c2
      by_cases he : te = 0
      · subst he
        have HV := Lib.hid (show threeS s = (fixV s, (tl, 0)) by unfold threeS; rw [← ht, if_neg (by simp)])
        clear ht
        obtain ⟨x0, hx0⟩ : ∃ x, x = fixV s 0 := ⟨_, rfl⟩
        obtain ⟨x1, hx1⟩ : ∃ x, x = fixV s 1 := ⟨_, rfl⟩
        obtain ⟨x2, hx2⟩ : ∃ x, x = fixV s 2 := ⟨_, rfl⟩
        rw [← hx0] at q0
        rw [← hx1] at q1
        rw [← hx2] at q2
        have HX := Lib.hid (And.intro hx0 (And.intro hx1 hx2))
        clear hx0 hx1 hx2
        have hz := Lib.hid (((HR3.setFar (b := w.heap.size) hg 0 (.int .i64 x0)).setFar (b := w.heap.size) hg 1 (.int .i64 x1)).setFar (b := w.heap.size) hg 2 (.int .i64 x2))
        have hAz := Lib.hid (((hA.setNew (Nat.le_refl _) (Nat.le_refl _) 0 (.int .i64 x0)).setNew (Nat.le_refl _) (Nat.le_refl _) 1 (.int .i64 x1)).setNew (Nat.le_refl _) (Nat.le_refl _) 2 (.int .i64 x2))
        clear HR3
        go_wp2_with fail
        obtain ⟨e0, e1, e2⟩ := H0.out.tri x0 x1 x2
        refine bodyPost_ret (v := V3 x0 x1 x2) (by simp [results, Try.results47, go_sem, e0, e1, e2]) rfl ⟨?_, ?_, hAz.out⟩
        · rw [HV.out, HX.out.1, HX.out.2.1, HX.out.2.2]
        · rw [HV.out]; exact hz.out
      · have HV := Lib.hid (show threeS s = (fun _ => 0, (tl, te)) by unfold threeS; rw [← ht, if_pos he])
        clear ht q0 q1 q2
        have he' : (te == 0) = false := by simpa using he
        clear he
        have hz := Lib.hid (((HR3.setFar (b := w.heap.size) hg 0 (.int .i64 0)).setFar (b := w.heap.size) hg 1 (.int .i64 0)).setFar (b := w.heap.size) hg 2 (.int .i64 0))
        have hAz := Lib.hid (((hA.setNew (Nat.le_refl _) (Nat.le_refl _) 0 (.int .i64 0)).setNew (Nat.le_refl _) (Nat.le_refl _) 1 (.int .i64 0)).setNew (Nat.le_refl _) (Nat.le_refl _) 2 (.int .i64 0))
        clear HR3
        go_wp2_with fail
        obtain ⟨e0, e1, e2⟩ := H0.out.tri 0 0 0
        refine bodyPost_ret (v := V3 0 0 0) (by simp [results, Try.results47, go_sem, e0, e1, e2]) rfl ⟨?_, ?_, hAz.out⟩
        · rw [HV.out]
        · rw [HV.out]; exact hz.out
end Go.Proofs.Ytgkfoiekminfmaa.Re
