/- Layer 7: the contract of the document's own reader's blob. -/
import Derived.Test.YtgabpmoibmhigaaRmc
namespace Go.Proofs.Ytgabpmoibmhigaa.Re
open Go.RowKit Go.Proofs.Ytgabpmoibmhigaa Go.Proofs.Ytgabpmoibmhigaa.Rp
set_option linter.unusedVariables false

theorem numS_fail {s : St} (n : Nat) (h : s.2 ≠ 0) : numS s n = (0, s) := by
  obtain ⟨l, e⟩ := s
  unfold numS; rw [takeS_err n h]; rfl
theorem numS_done {s : St} (n : Nat) (h : (numS s n).2.2 ≠ 0) : (numS s n).1 = 0 := by
  obtain ⟨l, e⟩ := s
  by_cases he : e = 0
  · subst he
    by_cases hs : l.length < n
    · unfold numS; rw [takeS_short hs]; rfl
    · unfold numS at h; rw [takeS_ok (by omega)] at h; exact absurd rfl h
  · rw [numS_fail n he]

theorem raw_z (g N : Nat) (a : Option Addr) (n c : Nat) (lb : List UInt8) (s : St) (x : Int) (k : Nat) (hx : x = k) (hk : k ≤ 1099511627776) (w : World) (h : MAt g N a n c lb s w) :
    Calls Try.prog 61 #[.pointer (some ⟨g, 0, none⟩), .int .i64 x] w fun e w' => (∃ v, Hid (e = .returned v ∧ w'.ownsRow w.heap.size 5 1 v (takeS s k).1.length (vals (takeS s k).1))  ∧ e = .returned v) ∧ MAt g N a n c lb (takeS s k).2 w' ∧ Aft g w.heap.size w w' := by
  subst hx
  exact (raw_any g N a n c lb s k hk w h).mono fun _ _ ⟨⟨v, h1, h2⟩, h3, h4⟩ => ⟨⟨v, Lib.hid ⟨h1, h2⟩, h1⟩, h3, h4⟩

set_option maxHeartbeats 1000000 in
theorem mblob_any (g N : Nat) (a : Option Addr) (n c : Nat) (lb : List UInt8) (s : St) (most : Int) (w : World) (h : MAt g N a n c lb s w) :
    Calls Try.prog 53 #[.pointer (some ⟨g, 0, none⟩), .int .i64 most] w fun e w' => (∃ a n c, e = .returned (.slice a n c) ∧ w'.ownsRow w.heap.size 5 1 (.slice a n c) (blobS s most).1.length (vals (blobS s most).1)) ∧ MAt g N a n c lb (blobS s most).2 w' ∧ Aft g w.heap.size w w' := by
  by_cases hover : max most 0 < ((numS s 4).1 : Int)
  · have HE := Lib.hid (show blobS s most = ([], failS (numS s 4).2 8) by unfold blobS; rw [if_pos hover])
    have HD := Lib.hid (numS_done (s := s) 4)
    have HO := Lib.hid hover
    clear hover
    go_enter Try.func53, Try.ntmps53
    go_wp2_with fail
    refine (mnum_z g N a n c lb s 4 4 rfl (by omega) _ h).mono ?_
    rintro e w1 ⟨⟨z, rfl, hz0, HZ⟩, hr, hA⟩
    have hz1 : z ≤ 4294967295 := by obtain ⟨y, h1, h2, -⟩ := HZ.out; omega
    have hov : max most 0 < z := by obtain ⟨y, h1, -, h2⟩ := HZ.out; rw [h1, h2]; exact HO.out
    clear h
    obtain ⟨t, ht⟩ : ∃ t, t = (numS s 4).2 := ⟨_, rfl⟩
    rw [← ht] at hr
    obtain ⟨l, te⟩ := t
    have hte : te = 0 := by
      by_cases hh : te = 0
      · exact hh
      · have := HD.out (by rw [← ht]; exact hh)
        have := HO.out
        omega
    subst hte
    have HT := Lib.hid ht
    clear ht
    have HR := Lib.hid (hr.setErr 8)
    have HA := Lib.hid (hA.setCell 2 (.int .i64 8))
    obtain ⟨c2, f2, -, hl⟩ := hr.err
    simp only [] at c2
    have hs1 := hA.size
    clear hr hA
    by_cases hm : most < 0
    · have h0z : 0 < z := by omega
      clear hov
      go_wp2_with fail
      refine (raw_z g N a n c lb (l, 8) z z.toNat (by omega) (by omega) _ HR.out).mono ?_
      rintro e w2 ⟨⟨v, HV, rfl⟩, hr2, ha2⟩
      have HT2 : takeS (l, 8) z.toNat = ([], (l, 8)) := takeS_err _ (by decide)
      rw [HT2] at HV hr2
      obtain ⟨a', c', hv⟩ := own_form HV.out.2
      subst hv
      have HA2 := Lib.hid (HA.out.trans (ha2.mono (by simpa using hs1)))
      have HR2 := Lib.hid hr2
      clear ha2 hr2 HT2
      go_wp2_with fail
      go_ret
      have hF : failS (numS s 4).2 8 = (l, 8) := by rw [← HT.out]; rfl
      rw [HE.out, hF]
      exact ⟨⟨a', _, c', rfl, own_mono HV.out.2 (by simpa using hs1)⟩, HR2.out, HA2.out⟩
    · have h0z : most < z := by omega
      clear hov
      go_wp2_with fail
      refine (raw_z g N a n c lb (l, 8) z z.toNat (by omega) (by omega) _ HR.out).mono ?_
      rintro e w2 ⟨⟨v, HV, rfl⟩, hr2, ha2⟩
      have HT2 : takeS (l, 8) z.toNat = ([], (l, 8)) := takeS_err _ (by decide)
      rw [HT2] at HV hr2
      obtain ⟨a', c', hv⟩ := own_form HV.out.2
      subst hv
      have HA2 := Lib.hid (HA.out.trans (ha2.mono (by simpa using hs1)))
      have HR2 := Lib.hid hr2
      clear ha2 hr2 HT2
      go_wp2_with fail
      go_ret
      have hF : failS (numS s 4).2 8 = (l, 8) := by rw [← HT.out]; rfl
      rw [HE.out, hF]
      exact ⟨⟨a', _, c', rfl, own_mono HV.out.2 (by simpa using hs1)⟩, HR2.out, HA2.out⟩
  · have HE := Lib.hid (show blobS s most = takeS (numS s 4).2 (numS s 4).1 by unfold blobS; rw [if_neg hover])
    have HO := Lib.hid hover
    clear hover
    go_enter Try.func53, Try.ntmps53
    go_wp2_with fail
    refine (mnum_z g N a n c lb s 4 4 rfl (by omega) _ h).mono ?_
    rintro e w1 ⟨⟨z, rfl, hz0, HZ⟩, hr, hA⟩
    have hz1 : z ≤ 4294967295 := by obtain ⟨y, h1, h2, -⟩ := HZ.out; omega
    have hov : ¬ max most 0 < z := by obtain ⟨y, h1, -, h2⟩ := HZ.out; have := HO.out; omega
    clear h
    have HR := Lib.hid hr
    have HA := Lib.hid hA
    have hs1 := hA.size
    clear hr hA
    by_cases hm : most < 0
    · have h0z : ¬ 0 < z := by omega
      clear hov
      go_wp2_with fail
      refine (raw_z g N a n c lb _ z z.toNat (by omega) (by omega) _ HR.out).mono ?_
      rintro e w2 ⟨⟨v, HV, rfl⟩, hr2, ha2⟩
      obtain ⟨a', c', hv⟩ := own_form HV.out.2
      subst hv
      have HA2 := Lib.hid (HA.out.trans (ha2.mono hs1))
      have HR2 := Lib.hid hr2
      have HZ2 := Lib.hid (show z.toNat = (numS s 4).1 by obtain ⟨y, h1, -, h2⟩ := HZ.out; omega)
      clear ha2 hr2
      go_wp2_with fail
      go_ret
      rw [HE.out, ← HZ2.out]
      exact ⟨⟨a', _, c', rfl, own_mono HV.out.2 hs1⟩, HR2.out, HA2.out⟩
    · have h0z : ¬ most < z := by omega
      clear hov
      go_wp2_with fail
      refine (raw_z g N a n c lb _ z z.toNat (by omega) (by omega) _ HR.out).mono ?_
      rintro e w2 ⟨⟨v, HV, rfl⟩, hr2, ha2⟩
      obtain ⟨a', c', hv⟩ := own_form HV.out.2
      subst hv
      have HA2 := Lib.hid (HA.out.trans (ha2.mono hs1))
      have HR2 := Lib.hid hr2
      have HZ2 := Lib.hid (show z.toNat = (numS s 4).1 by obtain ⟨y, h1, -, h2⟩ := HZ.out; omega)
      clear ha2 hr2
      go_wp2_with fail
      go_ret
      rw [HE.out, ← HZ2.out]
      exact ⟨⟨a', _, c', rfl, own_mono HV.out.2 hs1⟩, HR2.out, HA2.out⟩
end Go.Proofs.Ytgabpmoibmhigaa.Re
