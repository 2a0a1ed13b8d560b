/- Layer 22: digits of bytes and back; a row of no bytes. -/
import Derived.Test.YtpinpkhalccjhaaDoorSen
namespace Go.Proofs.YtpinpkhalccjhaaDoor.Se
open Go Go.RowKit Go.Proofs.YtpinpkhalccjhaaDoor Go.Proofs.YtpinpkhalccjhaaDoor.Au Go.Proofs.YtpinpkhalccjhaaDoor.Re
set_option linter.unusedVariables false
set_option linter.unusedSimpArgs false

theorem hexL_cons (b : UInt8) (r : List UInt8) : hexL (b :: r) = hexd (b.toNat / 16) :: hexd (b.toNat % 16) :: hexL r := by
  unfold hexL; rw [List.flatMap_cons]; rfl

theorem hexL_at : ∀ (l : List UInt8) (k : Nat) (b : UInt8), l[k]? = some b → (hexL l)[2 * k]? = some (hexd (b.toNat / 16)) ∧ (hexL l)[2 * k + 1]? = some (hexd (b.toNat % 16))
  | [], k, b, h => by simp at h
  | a :: r, 0, b, h => by
    obtain rfl : a = b := by simpa using h
    rw [hexL_cons]; exact ⟨rfl, rfl⟩
  | a :: r, k + 1, b, h => by
    have ih := hexL_at r k b (by simpa using h)
    rw [hexL_cons, show 2 * (k + 1) = 2 * k + 1 + 1 by omega]
    simp only [List.getElem?_cons_succ]
    exact ih

theorem dv_hexd : ∀ x : Fin 16, dv (hexd x.val).toNat = x.val := by decide +kernel

theorem ats_hex (l : List UInt8) (j : Nat) (x : Nat) (hx : x < 16) (h : (hexL l)[j]? = some (hexd x)) : dv (ats ⟨(hexL l).toArray⟩ j) = x := by
  unfold ats
  rw [List.getD_eq_getElem?_getD]
  simp only [h, Option.getD_some]
  exact dv_hexd ⟨x, hx⟩

theorem size_hex (l : List UInt8) : (ByteArray.mk (hexL l).toArray).size = 2 * l.length := by
  show (hexL l).toArray.size = _
  rw [List.size_toArray, hexL_len]

theorem ok_hex (l : List UInt8) : okHex ⟨(hexL l).toArray⟩ := by
  refine ⟨by rw [size_hex]; omega, fun k hk => ?_⟩
  rw [size_hex] at hk
  have hx : l[k]? = some (l[k]'(by omega)) := List.getElem?_eq_getElem (by omega)
  obtain ⟨h1, h2⟩ := hexL_at l k _ hx
  have hb := (l[k]'(by omega)).toNat_lt
  exact ⟨by rw [ats_hex l _ _ (by omega) h1]; omega, by rw [ats_hex l _ _ (by omega) h2]; omega⟩

theorem outs_hex (l : List UInt8) : outs ⟨(hexL l).toArray⟩ l.length = l := by
  apply List.ext_getElem?
  intro k
  by_cases hk : k < l.length
  · have hx : l[k]? = some (l[k]'hk) := List.getElem?_eq_getElem hk
    obtain ⟨h1, h2⟩ := hexL_at l k _ hx
    have hb := (l[k]'hk).toNat_lt
    have e1 := ats_hex l _ _ (by omega) h1
    have e2 := ats_hex l _ _ (by omega) h2
    unfold outs
    rw [List.getElem?_map, List.getElem?_range hk, Option.map_some, hx]
    unfold pairB
    rw [e1, e2, show (l[k]'hk).toNat / 16 * 16 + (l[k]'hk).toNat % 16 = (l[k]'hk).toNat by omega, UInt8.ofNat_toNat]
  · rw [List.getElem?_eq_none (by rw [outs_len]; omega), List.getElem?_eq_none (by omega)]

set_option maxHeartbeats 4000000 in
set_option maxRecDepth 100000 in
theorem hex_nil (w : World) : Calls Tryd.prog 47 #[.slice none 0 0] w fun e' w' => e' = .returned (.string ⟨(hexL []).toArray⟩) ∧ Below w.heap.size w w' := by
  go_enter Tryd.func47, Tryd.ntmps47
  go_upto_region 2 with fail
  have hr0 := heap_alloc_last w (.cells #[.pointer none, .slice none 0 0] 149)
  have hb0 := Ve.below_n1 w (.cells #[.pointer none, .slice none 0 0] 149)
  obtain ⟨y0, hy0⟩ : ∃ y, w.alloc (.cells #[.pointer none, .slice none 0 0] 149) = y := ⟨_, rfl⟩
  rw [hy0] at hr0 hb0 ⊢
  obtain ⟨b, hb⟩ : ∃ b, b = w.heap.size := ⟨_, rfl⟩
  have hB : w.heap.size ≤ b := by omega
  rw [← hb] at hr0 ⊢
  clear hy0 hb
  have hg := ShH.Builder_Grow_fresh w.heap.size b 0 y0 hB hr0 hb0.size (by omega)
  go_wp2_with fail
  refine hg.mono ?_
  rintro e y1 ⟨rfl, hba, hb1⟩
  have HBF := Lib.hid (show Lib.IsBuilder 149 5 w.heap.size b (Lib.byteCells (hexL [])) y1 from .inr hba)
  have HU := Lib.hid (hb0.trans hb1)
  clear hba hb1 hb0 hr0
  go_wp2_with fail
  refine wp_loop_rounds 1 ?_
  rw [rounds_succ]
  go_wp2_with fail
  refine (ShH.Builder_String_any w.heap.size b (hexL []) y1 HBF.out HU.out.size).mono ?_
  rintro e y2 ⟨rfl, hb2⟩
  go_wp2
  go_ret
  exact ⟨rfl, HU.out.trans hb2⟩

theorem hex_all (a : Option Addr) (n c : Nat) (l : List UInt8) (w : World) (hl : n ≤ 100000) (h : Bs w (.slice a n c) l) : Calls Tryd.prog 47 #[.slice a n c] w fun e' w' => e' = .returned (.string ⟨(hexL l).toArray⟩) ∧ Below w.heap.size w w' := by
  have hn := bs_len h
  rcases h with ⟨h, rfl⟩ | ⟨ad, cap, h, hc⟩
  · cases h; exact hex_nil w
  · cases h; exact hex_go ad c l _ w rfl hl hc

theorem rhex_all (a : Option Addr) (n c : Nat) (l : List UInt8) (w : World) (hl : n ≤ 100000) (h : Bs w (.slice a n c) l) : Calls Tryd.prog 48 #[.slice a n c] w fun e' w' => e' = .returned (.string ⟨(hexL l).toArray⟩) ∧ Below w.heap.size w w' := by
  have hn := bs_len h
  rcases h with ⟨h, rfl⟩ | ⟨ad, cap, h, hc⟩
  · cases h; exact rhex_nil w
  · cases h; exact rhex_go ad c l _ w rfl hl hc

theorem own_bs' {base : Nat} {w : World} {v : Value} {n : Nat} {l : List UInt8} (hn : n = l.length) (h : w.ownsRow base 5 1 v n (vals l)) : Bs w v l := by
  subst hn; exact own_bs h

end Go.Proofs.YtpinpkhalccjhaaDoor.Se
