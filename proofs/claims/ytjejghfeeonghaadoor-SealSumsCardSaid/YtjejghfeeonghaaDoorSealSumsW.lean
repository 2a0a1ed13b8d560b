/- SealSums: the walk. -/
import Derived.Test.YtjejghfeeonghaaDoorSey
import Derived.Test.YtjejghfeeonghaaDoorSej
namespace Go.Proofs.YtjejghfeeonghaaDoor.sealSumsW
open Go Go.RowKit Go.Proofs.YtjejghfeeonghaaDoor Go.Proofs.YtjejghfeeonghaaDoor.Au Go.Proofs.YtjejghfeeonghaaDoor.Re Go.Proofs.YtjejghfeeonghaaDoor.Se
set_option linter.unusedVariables false
set_option linter.unusedSimpArgs false

theorem bsc_len {w : World} {a : Option Addr} {n c : Nat} {l : List UInt8} (h : BsC w (.slice a n c) l) : n = l.length := by
  rcases h with ⟨h, rfl⟩ | ⟨ad, cap, h, -⟩
  · cases h; rfl
  · cases h; rfl

set_option maxHeartbeats 8000000 in
set_option maxRecDepth 100000 in
theorem walk (a : Option Addr) (n c : Nat) (l : List UInt8) (w : World) (hl : BsC w (.slice a n c) l) (hT : Tabs w) : Calls Tryd.prog 6 #[.slice a n c] w fun e' w' => e' = .returned (.bool true) ∧ Below w.heap.size w w' := by
  have HN := Lib.hid (bsc_len hl)
  have HT := Lib.hid hT
  have HB0 := Lib.hid hl
  clear hl hT
  by_cases h5 : n ≤ 5000
  · have h5' : ¬ (5000 : Int) < (n : Int) := by omega
    go_enter Tryd.func6, Tryd.ntmps6
    go_wp2_with fail
    refine (awake_any w HT.out).mono ?_
    rintro e y1 ⟨rfl, hb1⟩
    have HU1 := Lib.hid hb1
    have HB1 := Lib.hid (HB0.out.on hb1)
    clear hb1 HB0
    go_wp2_with fail
    have r2 := heap_alloc_last y1 (.cells #[.slice a n c] 56)
    have h2 := Ve.below_n1 y1 (.cells #[.slice a n c] 56)
    obtain ⟨y2, hy2⟩ : ∃ y, y1.alloc (.cells #[.slice a n c] 56) = y := ⟨_, rfl⟩
    have hs2 : y2.heap.size = y1.heap.size + 1 := by rw [← hy2]; simp
    rw [hy2] at r2 h2 ⊢
    have HU2 := Lib.hid (HU1.out.trans (h2.mono HU1.out.size))
    have HB2 := Lib.hid (HB1.out.on h2)
    have HLT := Lib.hid (show ∀ ad n' c', Value.slice a n c = .slice (some ad) n' c' → l ≠ [] → ad.block < y1.heap.size from fun ad n' c' e hne => by
      rcases HB1.out with ⟨_, h⟩ | ⟨ad', cap', h1, _, h3⟩
      · exact absurd h hne
      · cases e
        cases h1
        have hp : 0 < l.length := List.length_pos_iff.2 hne
        have h4 := h3 0 (.int .u8 ((l[0]'hp).toNat : Int)) (by unfold vals; rw [List.getElem?_map, List.getElem?_eq_getElem hp]; rfl)
        have h5 := World.block_lt_of_cell? _ _ h4
        rwa [ad_block] at h5)
    have HR2 := Lib.hid r2
    have HS2 := Lib.hid hs2
    clear hy2 h2 r2 hs2 HU1 HB1
    refine (of_any (.slice (some ⟨y1.heap.size, 0, none⟩) 1 1) [l] y2 (fun w' g hb hg => ?_) (by simp) (HT.out.on HU2.out) (by have := HN.out; simp only [List.flatten_cons, List.flatten_nil, List.append_nil]; omega)).mono ?_
    · have h2 := (hb.block _ (lt_heap HR2.out)).trans HR2.out
      have := HS2.out
      exact parts_one h2 (by omega) (HB2.out.on hb) (fun ad n' c' e hne => by have := HLT.out ad n' c' e hne; omega)
    rintro e y3 ⟨rfl, hb3⟩
    rw [show ([l] : List (List UInt8)).flatten = l by simp]
    obtain ⟨D, hD⟩ : ∃ D, D = (nums .u8 (sha l)).toArray := ⟨_, rfl⟩
    rw [← hD]
    have HD := Lib.hid hD
    have HU3 := Lib.hid (HU2.out.trans (hb3.mono HU2.out.size))
    have HB3 := Lib.hid (HB2.out.on hb3)
    clear hD hb3 HU2 HB2 HR2 HS2 HLT
    go_wp2_with fail
    refine (make_any y3).mono ?_
    rintro e y4 ⟨rfl, hb4⟩
    have HU4 := Lib.hid (HU3.out.trans (hb4.mono HU3.out.size))
    have HB4 := Lib.hid (HB3.out.on hb4)
    clear hb4 HU3 HB3
    obtain ⟨R, hR⟩ : ∃ R, R = (nums .u32 tbl).toArray := ⟨_, rfl⟩
    rw [← hR]
    have HRR := Lib.hid (show ∀ W, BsC W (.slice a n c) l → Calls Tryd.prog 33 #[.agg R, .slice a n c] W fun e' w' => e' = .returned (.agg D) ∧ Below W.heap.size W w' from fun W hW => by
      rw [hR, HD.out]
      exact rof_any _ l W hW (by have := HN.out; omega))
    clear hR
    go_wp2_with fail
    refine (HRR.out y4 HB4.out).mono ?_
    rintro e y5 ⟨rfl, hb5⟩
    have hqD : ∀ W, (Op.equalIn 10000 70 (.agg D) (.agg D)).run Tryd.prog W = .ok true W := fun W => by rw [HD.out]; exact eq_dig _ (sha_len _) W
    go_wp2
    go_ret
    exact ⟨rfl, HU4.out.trans (hb5.mono HU4.out.size)⟩
  · have h5' : (5000 : Int) < (n : Int) := by omega
    go_enter Tryd.func6, Tryd.ntmps6
    go_wp2_with fail
    refine (awake_any w HT.out).mono ?_
    rintro e y1 ⟨rfl, hb1⟩
    go_wp2
    go_ret
    exact ⟨rfl, hb1⟩

end Go.Proofs.YtjejghfeeonghaaDoor.sealSumsW
