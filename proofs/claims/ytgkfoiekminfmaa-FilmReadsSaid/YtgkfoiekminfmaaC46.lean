/- Films, sheets, read off bytes by both sides: what stands there, as one film and one error. -/
import Derived.Test.YtgkfoiekminfmaaC36
import Derived.Test.YtgkfoiekminfmaaC44
import Derived.Test.YtgkfoiekminfmaaC45
namespace Go.Proofs.Ytgkfoiekminfmaa.Fm
open Go Go.RowKit Go.Proofs.Ytgkfoiekminfmaa Go.Proofs.Ytgkfoiekminfmaa.Rp Go.Proofs.Ytgkfoiekminfmaa.Re Go.Proofs.Ytgkfoiekminfmaa.Au
set_option linter.unusedVariables false
set_option linter.unusedSimpArgs false

set_option maxHeartbeats 1000000 in
theorem ddecfilm_any (l : List UInt8) (ba : Option Addr) (bn bc : Nat) (w : World) (hv : Bs w (.slice ba bn bc) l) (hbn : bn ≤ 140737488355328) :
    Calls Try.prog 23 #[.slice ba bn bc] w fun e' w' => ((flR l = 0 ∧ ∃ p : Pl, e' = .returned (.tuple #[.agg (FC (fF (l, 0)) p), .int .i64 0]) ∧ FAtP (fun b => w.heap.size ≤ b) w' (fF (l, 0)) p) ∨ (¬ flR l = 0 ∧ e' = .returned (.tuple #[.agg ZFC, .int .i64 (flR l)]))) ∧ Below w.heap.size w w' := by
  obtain ⟨s, hs⟩ : ∃ s : St, s = (l, 0) := ⟨_, rfl⟩
  obtain ⟨x1, hx1⟩ : ∃ x, x = (numS s 2).1 := ⟨_, rfl⟩
  obtain ⟨x2, hx2⟩ : ∃ x, x = (numS (numS s 2).2 2).1 := ⟨_, rfl⟩
  have lx1 : x1 < 65536 := by rw [hx1]; exact numS_lt s 2
  have lx2 : x2 < 65536 := by rw [hx2]; exact numS_lt _ 2
  have eW : szW s = (x1 : Int) := by rw [hx1]; rfl
  have eH : szH s = (x2 : Int) := by rw [hx2]; rfl
  obtain ⟨m, hm⟩ : ∃ m, m = x1 * x2 := ⟨_, rfl⟩
  have hm4 : m ≤ 4294836225 := by rw [hm]; exact Nat.mul_le_mul (show x1 ≤ 65535 by omega) (show x2 ≤ 65535 by omega)
  have hmz : szW s * szH s = (m : Int) := by rw [eW, eH, hm]; simp
  have hw1 : IntKind.i64.wrap (szW s * szH s) = m := by rw [hmz, IntKind.wrap_i64]; omega
  have hw2 : wrap64 (szW s * szH s) = m := by rw [hmz]; unfold wrap64; omega
  have hmn : (fT0 s).2 = 0 → m = fN s := by
    intro h
    have hsz := fT0_sz h
    unfold fN
    rw [hsz.1, hsz.2, hmz]
    rfl
  have key : ∀ (E : St → St) (hE : ∀ {s : St}, s.2 ≠ 0 → E s = s) (t : St), ((fT0 s).2 ≠ 0 → t.2 ≠ 0) → itS E t (fN s) = itS E t m := by
    intro E hE t ht
    by_cases h : (fT0 s).2 = 0
    · rw [hmn h]
    · rw [it_stay hE (ht h), it_stay hE (ht h)]
  have n1 : (fT0 s).2 ≠ 0 → (fT1 s).2 ≠ 0 := fun h => by unfold fT1; rw [it_stay one_keep h]; exact h
  have n2 : (fT0 s).2 ≠ 0 → (fT2 s).2 ≠ 0 := fun h => by unfold fT2; rw [it_stay tri_keep (n1 h)]; exact n1 h
  have n3 : (fT0 s).2 ≠ 0 → (fT3 s).2 ≠ 0 := fun h => by unfold fT3; rw [it_stay tri_keep (n2 h)]; exact n2 h
  have n4 : (fT0 s).2 ≠ 0 → (fT4 s).2 ≠ 0 := fun h => by unfold fT4; rw [it_stay sml_keep (n3 h)]; exact n3 h
  have n5 : (fT0 s).2 ≠ 0 → (fT5 s).2 ≠ 0 := fun h => by unfold fT5; rw [it_stay sml_keep (n4 h)]; exact n4 h
  have hC := fun (g N : Nat) (X : World) (hX : MAt g N ba bn bc l (l, 0) X) => take_any g N ba bn bc l (l, 0) X hX
  rw [← hs] at hC
  have hF : (fT0 s).2 = 0 → (⟨szW s, szH s, fN s, fN s, fN s, fN s, fN s, fN s, itV triE triV 3 (szS s), itV oneE oneV 1 (fT0 s), itV triE triV 3 (fT1 s), itV triE triV 3 (fT2 s), itV smlE smlV 1 (fT3 s), itV smlE smlV 1 (fT4 s)⟩ : Flm) = fF s := by
    intro h
    unfold fF
    rw [(fT0_sz h).1, (fT0_sz h).2]
  have hz : flE l = 0 → (fT0 s).2 = 0 := by
    intro h
    unfold flE at h
    rw [← hs] at h
    have h5 := end_none (t := fT5 s) h
    exact Classical.byContradiction fun hh => n5 hh h5
  have eE : flE l = (endS (fT5 s)).2 := by unfold flE; rw [← hs]
  have eR : flR l = if flE l = 0 then (if okF (fF s) then 0 else 10) else flE l := by unfold flR; rw [← hs]
  refine (ddecfilm l ba bn bc (szW s) (szH s) (fN s) (itV triE triV 3 (szS s)) (fT0 s) (fT1 s) (fT2 s) (fT3 s) (fT4 s) (fT5 s) m w hv hbn (by rw [← hs]; exact hC) hm4 hw1 hw2 hmn (key oneE one_keep _ id) (key triE tri_keep _ n1) (key triE tri_keep _ n2) (key smlE sml_keep _ n3) (key smlE sml_keep _ n4) (flE l) eE).mono ?_
  rintro e w' ⟨h, hb⟩
  refine ⟨?_, hb⟩
  rw [← hs]
  rcases h with ⟨h0, hok, p, he, hat⟩ | ⟨h0, hno, he⟩ | ⟨h0, he⟩
  · have hf := hF (hz h0)
    rw [hf] at hok he hat
    exact .inl ⟨by rw [eR, if_pos h0, if_pos hok], p, he, hat⟩
  · have hf := hF (hz h0)
    rw [hf] at hno
    have e10 : flR l = 10 := by rw [eR, if_pos h0, if_neg hno]
    exact .inr ⟨by rw [e10]; decide, by rw [e10]; exact he⟩
  · have e1 : flR l = flE l := by rw [eR, if_neg h0]
    exact .inr ⟨by rw [e1]; exact h0, by rw [e1]; exact he⟩

/-- a sheet that is read off bytes, by both sides -/
theorem both_sheet (l : List UInt8) (hl : l.length ≤ 140737488355328) : ∃ (W H : Int) (n : Nat) (M : Nat → Int) (er : Int), n ≤ 4096
    ∧ (∀ (ba : Option Addr) (bn bc : Nat) (w : World), Bs w (.slice ba bn bc) l → bn ≤ 140737488355328 → Calls Try.prog 20 #[.slice ba bn bc] w fun e' w' => (∃ a c, e' = .returned (.tuple #[.agg #[.int .i64 W, .int .i64 H, .slice a n c], .int .i64 er]) ∧ Rw 3 w' a n M) ∧ Below w.heap.size w w')
    ∧ (∀ (ba : Option Addr) (bn bc : Nat) (w : World), Bs w (.slice ba bn bc) l → bn ≤ 140737488355328 → Calls Try.prog 21 #[.slice ba bn bc] w fun e' w' => (∃ a c, e' = .returned (.tuple #[.agg #[.int .i64 W, .int .i64 H, .slice a n c], .int .i64 er]) ∧ Rw 3 w' a n M) ∧ Below w.heap.size w w') := by
  by_cases h : shE l = 0
  · refine ⟨fW (l, 0), fH (l, 0), fN (l, 0), (fF (l, 0)).L, 0, (fN_is _).2, fun ba bn bc w hv hn => (decsheet_any l ba bn bc w hv hl).mono ?_, fun ba bn bc w hv hn => (ddecsheet_any l ba bn bc w hv hn).mono ?_⟩ <;>
    · rintro e w' ⟨⟨-, a, c, he, h1⟩ | ⟨h2, -⟩, hb⟩
      · exact ⟨⟨a, c, he, h1.rw (by decide)⟩, hb⟩
      · exact absurd h h2
  · refine ⟨0, 0, 0, fun _ => 0, shE l, by decide, fun ba bn bc w hv hn => (decsheet_any l ba bn bc w hv hl).mono ?_, fun ba bn bc w hv hn => (ddecsheet_any l ba bn bc w hv hn).mono ?_⟩ <;>
    · rintro e w' ⟨⟨h2, -⟩ | ⟨-, he⟩, hb⟩
      · exact absurd h2 h
      · exact ⟨⟨none, 0, he, .inl rfl⟩, hb⟩

/-- a film that is read off bytes, by both sides -/
theorem both_film (l : List UInt8) (hl : l.length ≤ 140737488355328) : ∃ (f : Flm) (er : Int), (f.nl ≤ 4096 ∧ f.nd ≤ 4096 ∧ f.nn ≤ 4096 ∧ f.nb ≤ 4096 ∧ f.ns ≤ 4096 ∧ f.nf ≤ 4096)
    ∧ (∀ (ba : Option Addr) (bn bc : Nat) (w : World), Bs w (.slice ba bn bc) l → bn ≤ 140737488355328 → Calls Try.prog 22 #[.slice ba bn bc] w fun e' w' => (∃ p : Pl, e' = .returned (.tuple #[.agg (FC f p), .int .i64 er]) ∧ FAt w' f p) ∧ Below w.heap.size w w')
    ∧ (∀ (ba : Option Addr) (bn bc : Nat) (w : World), Bs w (.slice ba bn bc) l → bn ≤ 140737488355328 → Calls Try.prog 23 #[.slice ba bn bc] w fun e' w' => (∃ p : Pl, e' = .returned (.tuple #[.agg (FC f p), .int .i64 er]) ∧ FAt w' f p) ∧ Below w.heap.size w w') := by
  have hN := (fN_is (l, 0)).2
  by_cases h : flR l = 0
  · refine ⟨fF (l, 0), 0, ⟨hN, hN, hN, hN, hN, hN⟩, fun ba bn bc w hv hn => (decfilm_any l ba bn bc w hv hl).mono ?_, fun ba bn bc w hv hn => (ddecfilm_any l ba bn bc w hv hn).mono ?_⟩
    · rintro e w' ⟨⟨-, -, -, p, he, h1⟩ | ⟨h2, -⟩, hb⟩
      · exact ⟨⟨p, he, h1.fat⟩, hb⟩
      · exact absurd h h2
    · rintro e w' ⟨⟨-, p, he, h1⟩ | ⟨h2, -⟩, hb⟩
      · exact ⟨⟨p, he, h1.fat⟩, hb⟩
      · exact absurd h h2
  · refine ⟨⟨0, 0, 0, 0, 0, 0, 0, 0, fun _ => 0, fun _ => 0, fun _ => 0, fun _ => 0, fun _ => 0, fun _ => 0⟩, flR l, ⟨by decide, by decide, by decide, by decide, by decide, by decide⟩, fun ba bn bc w hv hn => (decfilm_any l ba bn bc w hv hl).mono ?_, fun ba bn bc w hv hn => (ddecfilm_any l ba bn bc w hv hn).mono ?_⟩ <;>
    · rintro e w' ⟨⟨h2, -⟩ | ⟨-, he⟩, hb⟩
      · exact absurd h2 h
      · exact ⟨⟨⟨none, 0, none, 0, none, 0, none, 0, none, 0, none, 0⟩, he, ⟨.inl rfl, .inl rfl, .inl rfl, .inl rfl, .inl rfl, .inl rfl⟩⟩, hb⟩

end Go.Proofs.Ytgkfoiekminfmaa.Fm
