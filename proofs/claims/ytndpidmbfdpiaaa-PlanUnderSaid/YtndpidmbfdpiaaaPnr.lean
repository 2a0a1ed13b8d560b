/- Layer 25: seek, the closure that calls itself by a variable: what it finds going down. -/
import Derived.Test.YtndpidmbfdpiaaaPng
import Derived.Test.YtndpidmbfdpiaaaPnp
import Derived.Laws.EntriesVeiled
namespace Go.Proofs.Ytndpidmbfdpiaaa.Pn
open Go Go.RowKit Go.Shelf Go.Proofs Go.Proofs.Ytndpidmbfdpiaaa Go.Proofs.Ytndpidmbfdpiaaa.Au Go.Proofs.Ytndpidmbfdpiaaa.Re
set_option linter.unusedVariables false
set_option linter.unusedSimpArgs false

/-- the closure with its captured variables -/
abbrev SeekV (P F C S : Nat) : Value := .func (.func 22) #[] #[.pointer (some ⟨P, 0, none⟩), .pointer (some ⟨F, 0, none⟩), .pointer (some ⟨C, 0, none⟩), .pointer (some ⟨S, 0, none⟩)]

/-- what lies while it seeks: the plan's variable, what was found, the list, the closure's variable -/
structure SkAt (w0 w : World) (P F C S : Nat) (a : Option Addr) (n c : Nat) (l : List Int) : Prop where
  below : Below P w0 w
  p : w.heap[P]? = some (.cells #[.slice a n c] 26 (0, 0))
  f : w.rowIs F 47 256 (fun i => .bool (has l (i : Int)))
  s : w.heap[S]? = some (.cells #[SeekV P F C S] 48 (0, 0))
  l : ∃ la lc, w.heap[C]? = some (.cells #[.slice la l.length lc] 28 (0, 0)) ∧ w.ownsRow (S + 1) 3 1 (.slice la l.length lc) l.length (iv l)

theorem enters_seek : ∀ args w, (callFunc 22 args).run Try.prog w = .ok (.enter 22 args) w := enters_of Try.func22 (by kernel_rfl) rfl

theorem sk_s (g : Int → List Int → List Int) (needs l : List Int) (k : Nat) : sk g needs l (k + 1) = if has (sk g needs l k) (needs.getD k 0) then sk g needs l k else g (needs.getD k 0) (sk g needs l k ++ [needs.getD k 0]) := rfl

theorem row_did' {w : World} {g n : Nat} {T : TypeId} {l : List Int} {m : Nat} (h : w.rowIs g T n (fun i => .bool (has l (i : Int)))) : (w.setCell ⟨g, m, none⟩ (.bool true)).rowIs g T n (fun i => .bool (has (l ++ [(m : Int)]) (i : Int))) := row_did h

set_option maxHeartbeats 8000000 in
set_option maxRecDepth 100000 in
theorem seek_any (a : Option Addr) (c n : Nat) (L : List (List Int)) (o : List Int) (hn : n = L.length) (hn256 : n ≤ 256) (hF : Fits L) (hw : Whole L o) (w0 : World) (hP : PAt w0 a n L) (P F C S : Nat) (hP0 : P = w0.heap.size) (hCP : P < C) (hFC : C < F) (hSF : F < S) :
    ∀ f i : Nat, i < f → i < o.length → ∀ (l : List Int) (w : World), Ok L l → SkAt w0 w P F C S a n c l →
    Calls Try.prog 22 #[.int .i64 (o.getD i 0), .pointer (some ⟨P, 0, none⟩), .pointer (some ⟨F, 0, none⟩), .pointer (some ⟨C, 0, none⟩), .pointer (some ⟨S, 0, none⟩)] w fun e w' => e = .returned (.tuple #[]) ∧ SkAt w0 w' P F C S a n c (seek L f (o.getD i 0) l) := by
  intro f
  induction f with
  | zero => intro i h; exact absurd h (Nat.not_lt_zero _)
  | succ f ih =>
    intro i hif hio l w hOk hS
    have HN := Lib.hid hn
    have HP := Lib.hid hP
    have HW := Lib.hid hw
    have HPZ := Lib.hid hP0
    have HF0 := Lib.hid hF
    have hr0 := hw.ok.2 (o.getD i 0) (getD_mem2 hio)
    have hnd := fun q hq => hw.need hio (q := q) hq
    have hsk : seek L (f + 1) (o.getD i 0) l = sk (seek L f) (L[(o.getD i 0).toNat]!) l (L[(o.getD i 0).toNat]!).length := rfl
    have hdn : ∀ k, k ≤ (L[(o.getD i 0).toNat]!).length → Ok L (sk (seek L f) (L[(o.getD i 0).toNat]!) l k) := fun k hk =>
      (sk_down hF (g := seek L f) hOk hr0 (fun q hq l hl => by
        obtain ⟨j, hj, e⟩ := hw.need hio hq
        rw [e]
        exact seek_down hF hw f j (by omega) (by omega) l hl) k hk).ok
    rw [hsk]
    obtain ⟨q, hq0⟩ : ∃ q : Nat, o.getD i 0 = (q : Int) := ⟨(o.getD i 0).toNat, by omega⟩
    rw [hq0, Int.toNat_natCast] at hdn hnd ⊢
    rw [hq0] at hr0
    have hq : q < n := by omega
    have hq' : (q : Int) < n := by omega
    obtain ⟨pb, poff, hpa, b', c', hcw, hro⟩ := hP.row hq
    subst hpa
    have hpb : pb < P := by
      have := World.block_lt_of_cell? w0 _ hcw
      have h2 : pb < w0.heap.size := by simpa using this
      omega
    have HND := Lib.hid hnd
    have HDN := Lib.hid hdn
    have HFR := Lib.hid (hF q (by omega))
    clear hnd hdn hsk
    generalize L[q]! = R at hcw hro HND HDN HFR ⊢
    obtain ⟨r, hr⟩ : ∃ r, r = R.length := ⟨_, rfl⟩
    rw [← hr] at hcw hro ⊢
    have HRL := Lib.hid hr
    have HRO := Lib.hid hro
    have HCW := Lib.hid hcw
    have hrb := hro.len.2
    have HS := Lib.hid hS
    obtain ⟨i0, hi, hz0, hz1, hz2⟩ := info_parts infoN
    have cp := cell_of_row _ _ 0 _ _ _ hS.p
    simp at cp
    have hcell := (hS.below.cell (p := ⟨pb, poff + q, none⟩) hpb).trans hcw
    clear hr hro hcw hS hn hP hF hw hP0 hq0 hr0
    go_enter Try.func22, Try.ntmps22
    go_upto_region 1 with fail
    clear cp hcell
    go_loopw [13] (fun v wr => ∃ k : Nat, k ≤ r ∧ v = .int .i64 k ∧ Hid (SkAt w0 wr P F C S (some ⟨pb, poff, none⟩) n c (sk (seek L f) R l k))) (fun v _ => r - (intOf v).toNat)
    case atStart => exact ⟨0, by omega, rfl, HS⟩
    case round =>
      obtain ⟨k, hk, rfl, HSk⟩ := hrel
      by_cases hkr : k < r
      · have hkr' : (k : Int) < r := by omega
        have HX := Lib.hid (sk_s (seek L f) R l k)
        have hOkk := HDN.out k (by rw [← HRL.out]; omega)
        have hll := ok_len hOkk
        obtain ⟨M, hM⟩ : ∃ M, M = sk (seek L f) R l k := ⟨_, rfl⟩
        rw [← hM] at HX HSk hOkk hll
        have HOK := Lib.hid hOkk
        have hBq := HSk.out.below
        have hci : ∃ b2 o2, b' = some ⟨b2, o2, none⟩ ∧ wr.cell? ⟨b2, o2 + k, none⟩ = some (.int .i64 (R.getD k 0)) := by
          rw [HPZ.out] at hBq
          exact (HRO.out.on hBq).at hkr
        obtain ⟨b2, o2, e2, hci⟩ := hci
        subst e2
        obtain ⟨j, hj, ej⟩ := HND.out k (by rw [← HRL.out]; exact hkr)
        have hfr := HFR.out (R.getD k 0) (getD_mem2 (by rw [← HRL.out]; exact hkr))
        obtain ⟨s, hs0⟩ : ∃ s : Nat, R.getD k 0 = (s : Int) := ⟨(R.getD k 0).toNat, by omega⟩
        rw [hs0] at hci hfr HX ej
        have hsn : s < 256 := by have := HN.out; omega
        have hsL : s < L.length := by omega
        have hsn' : (s : Int) < 256 := by omega
        have HEJ := Lib.hid ej
        have hjo : j < o.length := by omega
        obtain ⟨la, lc, hlC, hown⟩ := HSk.out.l
        obtain ⟨m, hm⟩ : ∃ m, m = M.length := ⟨_, rfl⟩
        rw [← hm] at hlC hown
        have HMm := Lib.hid hm
        have hm256 : m ≤ 256 := by have := HN.out; omega
        have hcs := HSk.out.f.cell hsn
        have hfs := HSk.out.f.frozen s
        clear hM hBq hs0 hfr ej hOkk hll hm
        cases hh : has M (s : Int) with
        | true =>
          rw [hh] at HX hcs
          go_wp2_with fail
          go_roundw
          case rel => exact ⟨k + 1, by omega, by go_num, Lib.hid (by rw [HX.out, if_pos rfl]; exact HSk.out)⟩
          case measure => simp [intOf]; omega
        | false =>
          rw [hh] at HX hcs
          go_upto_region 5 with fail
          have HF2 := Lib.hid (row_did HSk.out.f (m := s))
          have HO2 := Lib.hid (own_other hown (show F < S + 1 by omega) s (.bool true))
          have HB2 := Lib.hid (HSk.out.below.setCell (p := ⟨F, s, none⟩) (show P ≤ F by omega) (.bool true))
          have HP2 := Lib.hid ((Below.heap_setCell wr ⟨F, s, none⟩ (.bool true) P (by show P ≠ F; omega)).trans HSk.out.p)
          have HC2 := Lib.hid ((Below.heap_setCell wr ⟨F, s, none⟩ (.bool true) C (by show C ≠ F; omega)).trans hlC)
          have HS2 := Lib.hid ((Below.heap_setCell wr ⟨F, s, none⟩ (.bool true) S (by show S ≠ F; omega)).trans HSk.out.s)
          obtain ⟨y2, hy2⟩ : ∃ y, wr.setCell ⟨F, s, none⟩ (.bool true) = y := ⟨_, rfl⟩
          rw [hy2] at HF2 HO2 HB2 HP2 HC2 HS2 ⊢
          clear hy2 hcs hfs hci
          have hc2 := cell_of_row _ _ 0 _ _ _ HC2.out
          simp at hc2
          have hsz2 := lt_heap HS2.out
          have HI1 := Lib.hid (HO2.out.alloc (.cells #[.int .i64 (s : Int)] 3))
          have HV := Lib.hid (iv_one1 (s : Int) y2 y2.heap.size rfl)
          go_wp2_with (at_builtin; refine wpList_append_own _ rfl _ _ 28 rfl (S + 1) 3 i0 (.int .i64 0) 1 8 Try.underlying28 hi hz0 hz1 hz2 rfl (by decide) _ _ _ rfl HI1.out ⟨y2.heap.size, 0, none⟩ 1 1 (iv [(s : Int)]) rfl rfl HV.out (iv_one _) ?d3 ?d4 ?d5 ?_)
          case d3 => unfold maxLen; omega
          case d4 => omega
          case d5 => first | omega | (simp; omega)
          intro v2 y3 hown2 hgrow2 _
          have hlt := fun q hq => (HO2.out.lt q hq).1
          have keep : ∀ B, B ≤ S → B < y2.heap.size → y3.heap[B]? = y2.heap[B]? := fun B hB hB2 => (hgrow2.block B (by simp; omega) (fun e => by have := hlt B e.symm; omega)).trans ((Below.refl _ y2).alloc (Nat.le_refl _) _ |>.block B hB2)
          have hs3 : y2.heap.size ≤ y3.heap.size := by have := hgrow2.size; simp at this; omega
          have HF3 := Lib.hid (HF2.out.of_block (keep F (by omega) HF2.out.lt))
          have HP3 := Lib.hid ((keep P (by omega) (lt_heap HP2.out)).trans HP2.out)
          have HC3 := Lib.hid ((keep C (by omega) (lt_heap HC2.out)).trans HC2.out)
          have HS3 := Lib.hid ((keep S (by omega) (lt_heap HS2.out)).trans HS2.out)
          have HB3 := Lib.hid (show Below P w0 y3 from (HB2.out.alloc (by have := lt_heap HP2.out; omega) _).grown hgrow2 (by have := lt_heap HP2.out; simp; omega) (fun q hq => by have := hlt q hq; omega))
          have HO3 := Lib.hid (show y3.ownsRow (S + 1) 3 1 v2 (m + 1) (iv (M ++ [(s : Int)])) by rw [iv_append]; exact hown2)
          obtain ⟨a9, c9, hv9⟩ := own_form HO3.out
          subst hv9
          clear hown2 hgrow2 HI1 HV keep hlt HF2 HO2 HB2 HP2 HC2 HS2 hc2 hown hlC
          have hc3 := cell_of_row _ _ 0 _ _ _ HC3.out
          simp at hc3
          have hf3 : y3.frozen? ⟨C, 0, none⟩ = false := by simp [World.frozen?, HC3.out]
          go_upto_region 6 with fail
          have HC4 := Lib.hid (heap_setCell_same y3 C 0 _ _ (.slice a9 (m + 1) c9) HC3.out)
          have HF4 := Lib.hid (HF3.out.of_block (Below.heap_setCell y3 ⟨C, 0, none⟩ (.slice a9 (m + 1) c9) F (by show F ≠ C; omega)))
          have HP4 := Lib.hid ((Below.heap_setCell y3 ⟨C, 0, none⟩ (.slice a9 (m + 1) c9) P (by show P ≠ C; omega)).trans HP3.out)
          have HS4 := Lib.hid ((Below.heap_setCell y3 ⟨C, 0, none⟩ (.slice a9 (m + 1) c9) S (by show S ≠ C; omega)).trans HS3.out)
          have HO4 := Lib.hid (own_other HO3.out (show C < S + 1 by omega) 0 (.slice a9 (m + 1) c9))
          have HB4 := Lib.hid (HB3.out.setCell (p := ⟨C, 0, none⟩) (show P ≤ C by omega) (.slice a9 (m + 1) c9))
          obtain ⟨y4, hy4⟩ : ∃ y, y3.setCell ⟨C, 0, none⟩ (.slice a9 (m + 1) c9) = y := ⟨_, rfl⟩
          rw [hy4] at HC4 HF4 HP4 HS4 HO4 HB4 ⊢
          clear hy4 hc3 hf3 HC3 HF3 HP3 HS3 HO3 HB3
          have hlen : (M ++ [(s : Int)]).length = m + 1 := by rw [List.length_append, ← HMm.out]; rfl
          have HA4 := Lib.hid (show SkAt w0 y4 P F C S (some ⟨pb, poff, none⟩) n c (M ++ [(s : Int)]) from ⟨HB4.out, HP4.out, HF4.out, HS4.out, a9, c9, by rw [hlen]; simpa using HC4.out, by rw [hlen]; exact HO4.out⟩)
          have hcall := ih j (by omega) hjo (M ++ [(s : Int)]) y4 (ok_add HOK.out hsL hh) HA4.out
          rw [← HEJ.out] at hcall
          have cs := cell_of_row _ _ 0 _ _ _ HS4.out
          simp at cs
          have eg := enters_seek
          clear hlen
          go_wp2_with (go_at_fn 22; refine hcall.mono ?_; rintro e y5 ⟨rfl, h5⟩)
          go_roundw
          case rel => exact ⟨k + 1, by omega, by go_num, Lib.hid (by rw [HX.out, if_neg (by decide)]; exact h5)⟩
          case measure => simp [intOf]; omega
      · have hge : ¬ (k : Int) < r := by omega
        have hk' : k = r := by omega
        subst hk'
        go_wp2_with fail
        refine bodyPost_end (results_none rfl _ _ _) rfl ?_
        exact ⟨rfl, HSk.out⟩
end Go.Proofs.Ytndpidmbfdpiaaa.Pn
