/- The walk of ReelReads: whatever the input it returns true, and nothing that was there is written. -/
import Derived.Test.YtgabpmoibmhigaaRmk
import Derived.Laws.AppendOwnNone
import Derived.Laws.BitsAllLaws
namespace Go.Proofs.Ytgabpmoibmhigaa.reelReadsW
open Go.RowKit Go.Proofs.Ytgabpmoibmhigaa Go.Proofs.Ytgabpmoibmhigaa.Re Go.Proofs.Ytgabpmoibmhigaa.Rp
set_option linter.unusedVariables false

set_option maxHeartbeats 8000000 in
set_option maxRecDepth 100000 in
theorem walk_some (ad : Addr) (c0 : Nat) (lb : List UInt8) (a1 : Option Addr) (len1 cap1 : Nat) (L : Nat → It) (w : World) (hp : ∀ j u, (vals lb)[j]? = some u → w.cell? (ad.add j) = some u) (hn0 : lb.length ≤ 140737488355328) (hI : Items w a1 L len1) (hl1 : len1 ≤ 140737488355328) :
    Calls Try.prog 4 #[.slice (some ad) lb.length c0, .slice a1 len1 cap1] w fun e w' => e = .returned (.bool true) ∧ Below w.heap.size w w' := by
  obtain ⟨i0, hi, hz0, hz1, hz2⟩ := info_parts infoByte
  obtain ⟨n0, hn⟩ : ∃ n, n = lb.length := ⟨_, rfl⟩
  have HLN := Lib.hid hn0
  have HBS := Lib.hid (show Bs w (.slice (some ad) n0 c0) lb from by rw [hn]; exact .inr ⟨ad, c0, rfl, hp⟩)
  rw [← hn] at hn0 ⊢
  have HLT := Lib.hid (fun (ad' : Addr) (h1 : some ad = some ad') (h2 : lb ≠ []) => bs_block_lt HBS.out h1 h2)
  have HP := Lib.hid (fun j u hu => old1 (.cells #[] 5) (hp j u hu))
  have HI := Lib.hid hI
  have HN := Lib.hid hn
  clear hI hp hn
  go_enter Try.func4, Try.ntmps4
  go_wp2_with (first | (at_builtin; refine wpList_append_own _ rfl _ _ 28 rfl w.heap.size 5 i0 (.int .u8 0) 1 1 Try.underlying28 hi hz0 hz1 hz2 rfl (by decide) _ _ _ rfl (World.ownsRow_lit w #[] 0 (Nat.le_refl _) (by unfold maxLen; omega) rfl) ad n0 c0 (vals lb) rfl ?c1 HP.out (vals_one lb) ?c3 ?c4 ?c5 ?_))
  case c1 => rw [vals_length, HN.out]; omega
  case c3 => unfold maxLen; omega
  case c4 => omega
  case c5 => simp
  intro v' w1 hown hgrow hnil
  have b1 : Below w.heap.size w w1 := (below_n1 w (.cells #[] 5)).grown hgrow (by simp) (fun q hq => by simp [Value.ownBlock] at hq; omega)
  have HO0 := Lib.hid (show w1.ownsRow w.heap.size 5 1 v' lb.length (vals lb) by simpa [HN.out] using hown)
  obtain ⟨ai, ni, ci, hv9⟩ := own_form3 HO0.out
  subst hv9
  have HO1 := HO0
  clear hown hgrow hnil HO0
  have HB1 := Lib.hid (HBS.out.on b1)
  have hs1 := b1.size
  go_wp2_with fail
  refine (read_any lb _ _ (own_bs HO1.out) HLN.out).mono ?_
  rintro e w2 ⟨⟨gr, rfl, hRR⟩, hb2⟩
  have hs2 := hb2.size
  obtain ⟨D, hD⟩ : ∃ D, D = w1.heap.size := ⟨_, rfl⟩
  obtain ⟨g, hg⟩ : ∃ g, w2.heap.size = g := ⟨_, rfl⟩
  have b2 : Below w.heap.size w w2 := b1.trans (hb2.mono hs1)
  have HM3 := Lib.hid (show MAt g w.heap.size (some ad) n0 c0 lb (lb, 0) (w2.alloc (.cells #[.slice (some ad) n0 c0, .int .i64 0, .int .i64 0] 43)) from by rw [← hg]; exact MAt.start w2 b2.size (HB1.out.on hb2) (by omega) HLT.out)
  have HR3 := Lib.hid (show RR D g gr lb (w2.alloc (.cells #[.slice (some ad) n0 c0, .int .i64 0, .int .i64 0] 43)) from by rw [hD, ← hg]; exact hRR.out.on (below_n1 _ _))
  have HS3 := Lib.hid (show Scr w.heap.size ai ni (w2.alloc (.cells #[.slice (some ad) n0 c0, .int .i64 0, .int .i64 0] 43)) from own_scr (own_heap HO1.out fun q hq => ((hb2.alloc hs2 _).block q (by have := (HO1.out.lt q hq).2; omega))))
  have b3 : Below w.heap.size w (w2.alloc (.cells #[.slice (some ad) n0 c0, .int .i64 0, .int .i64 0] 43)) := b2.alloc b2.size _
  have HQ := Lib.hid (show ∀ q : Nat, (ai : Option Addr) = some ⟨q, 0, none⟩ → q < D from fun q hq => by rw [hD]; exact (HO1.out.lt q (by rw [hq]; rfl)).2)
  have hDg : D ≤ g := by omega
  have hND : w.heap.size ≤ D := by omega
  have hni : ni ≤ 140737488355328 := by have := own_len HO1.out; have := HLN.out; omega
  clear hRR hb2 hs2 hD b2 HO1 HB1
  go_wp2_with fail
  clear hg
  go_loopw [21] (fun i wr => ∃ j : Nat, j ≤ ni ∧ i = .int .i64 j ∧ Hid (Scr w.heap.size ai ni wr) ∧ Hid (RR D g gr lb wr) ∧ Hid (MAt g w.heap.size (some ad) n0 c0 lb (lb, 0) wr) ∧ Below w.heap.size w wr) (fun i _ => ni - (intOf i).toNat)
  case atStart => exact ⟨0, Nat.zero_le _, rfl, HS3, HR3, HM3, b3⟩
  case round =>
    obtain ⟨j, hj, rfl, HS, HR, HM, hbx⟩ := hrel
    by_cases hlt : j < ni
    · have hlt' : (j : Int) < ni := by omega
      obtain h0 | ⟨q, rfl, hBq, hcs, hfs⟩ := HS.out
      · omega
      obtain ⟨z, hz⟩ := hcs j hlt
      have hf := hfs j
      have hqD := HQ.out q rfl
      have HPT := Lib.hid (fun x => Scr.put (c := 0) HS.out j hlt x)
      have HPR := Lib.hid (fun x : Value => HR.out.set hqD j x)
      have HPM := Lib.hid (fun x : Value => HM.out.set hBq (show q ≠ g by omega) j x)
      clear hcs hfs
      go_wp2_with fail
      go_roundw
      case rel => exact ⟨j + 1, by omega, by go_num, Lib.hid (HPT.out _), Lib.hid (HPR.out _), Lib.hid (HPM.out _), hbx.setCell hBq _⟩
      case measure => simp [intOf]; omega
    · obtain rfl : j = ni := by omega
      have HT0 : Hid (Two (.pointer (some ⟨gr, 0, none⟩)) gr g g w.heap.size (some ad) n0 c0 lb (lb, 0) (lb, 0) w wr) := Lib.hid (by
        have h := HR.out
        have hm := HM.out
        have hgs := hm.err.2.2
        exact ⟨Nat.le_refl _, by have := h.1; omega, by have := h.2.1; omega, by have := h.2.1; omega, .inr ⟨rfl, h.rat⟩, hm, hbx⟩)
      clear HS HR HM HS3 HR3 HM3 HQ hbx b3 b1
      go_wp2_with fail
      go_loopw [33] (fun i wx => ∃ k : Nat, k ≤ len1 ∧ k ≤ 60 ∧ i = .int .i64 k ∧ ∃ t, Hid (Two (.pointer (some ⟨gr, 0, none⟩)) gr g g w.heap.size (some ad) n0 c0 lb t t w wx)) (fun i _ => len1 - (intOf i).toNat)
      case atStart => exact ⟨0, Nat.zero_le _, by omega, rfl, _, HT0⟩
      case round =>
        clear HT0
        obtain ⟨k, hk, hk60, rfl, t, HT⟩ := hrel
        by_cases hlt : k < len1
        · have hlt' : (k : Int) < len1 := by omega
          have hbk := HT.out.b
          have hsz := hbk.size
          obtain ⟨b, off, rfl, hblt, hok, hra, -⟩ := (HI.out.on hbk).at hlt
          obtain ⟨x, hx⟩ : ∃ x, x = L k := ⟨_, rfl⟩
          rw [← hx] at hok hra
          obtain ⟨cs, hcs⟩ : ∃ cs, cs = x.cells := ⟨_, rfl⟩
          have HSZ := Lib.hid (size_item hok)
          have HSZ2 := Lib.hid (size_item2 hok)
          have HAL := Lib.hid x.all
          have HZZ := Lib.hid (z39_size hok)
          rw [← hcs] at hra HSZ HSZ2 HAL HZZ
          have HRA := Lib.hid hra
          have HCS := Lib.hid hcs
          have HOK := Lib.hid hok
          clear hra hcs hx hok hbk
          obtain ⟨wq, hwq⟩ : ∃ wq, wq = wr.alloc (.cells cs.toArray 33) := ⟨_, rfl⟩
          have HQ := Lib.hid (show wq.heap[wr.heap.size]? = some (.cells cs.toArray 33) by rw [hwq]; exact heap_alloc_last wr _)
          have HT1 := Lib.hid (show Two (.pointer (some ⟨gr, 0, none⟩)) gr g g w.heap.size (some ad) n0 c0 lb t t w wq by rw [hwq]; exact HT.out.on (below_n1 _ _))
          by_cases h60 : k < 60
          · have h60' : (k : Int) < 60 := by omega
            go_wp2_with (first | (with_reducible refine wpList_load_mid rfl 33 (.tmp 36) rfl b (off + k * 39) rfl cs _ HRA.out Try.underlying33 rfl HSZ.out ?_) | (with_reducible refine wpList_store_new rfl 33 (.tmp 10) (.tmp 37) rfl wr Z39 cs.toArray wr.heap.size rfl rfl rfl HSZ2.out HZZ.out HAL.out ?_; rw [← hwq]; clear hwq) | (with_reducible refine wpList_load_row rfl 33 (.tmp 10) rfl wr.heap.size rfl 33 cs.toArray (0, 0) _ HQ.out Try.underlying33 rfl HSZ2.out ?_))
            have HC := reads_any _ gr g g w.heap.size _ _ _ _ t w _ x HOK.out HT1.out
            rw [← HCS.out] at HC
            refine HC.mono ?_
            clear HC
            rintro e w4 ⟨rfl, t4, hT4⟩
            have HT4 := Lib.hid hT4
            clear hT4 HQ HT1 HT
            go_wp2_with fail
            go_roundw
            case rel => exact ⟨k + 1, by omega, by omega, by go_num, t4, HT4⟩
            case measure => simp [intOf]; omega
          · obtain rfl : k = 60 := by omega
            go_wp2_with (first | (with_reducible refine wpList_load_mid rfl 33 (.tmp 36) rfl b (off + 60 * 39) rfl cs _ HRA.out Try.underlying33 rfl HSZ.out ?_) | (with_reducible refine wpList_store_new rfl 33 (.tmp 10) (.tmp 37) rfl wr Z39 cs.toArray wr.heap.size rfl rfl rfl HSZ2.out HZZ.out HAL.out ?_; rw [← hwq]; clear hwq))
            clear HT
            have HT := HT1
            clear HT1
            go_wp2_with fail
            refine (awake_any _).mono ?_
            rintro e y1 ⟨rfl, hy1⟩
            have HT5 := Lib.hid (HT.out.on hy1)
            clear hy1
            go_wp2_with fail
            refine (end_any _ gr _ _ HT5.out.r).mono ?_
            rintro e y2 ⟨rfl, hr, hA⟩
            have HT6 := Lib.hid (HT5.out.left hr hA)
            clear hr hA
            go_wp2_with fail
            refine (mend_any g w.heap.size _ _ _ _ _ _ HT6.out.m).mono ?_
            rintro e y3 ⟨rfl, hm, hA⟩
            have HT7 := Lib.hid (HT6.out.right hm hA)
            clear hm hA
            go_wp2
            go_ret
            exact ⟨rfl, HT7.out.b⟩
        · obtain rfl : k = len1 := by omega
          go_wp2_with fail
          refine (awake_any _).mono ?_
          rintro e y1 ⟨rfl, hy1⟩
          have HT5 := Lib.hid (HT.out.on hy1)
          clear hy1
          go_wp2_with fail
          refine (end_any _ gr _ _ HT5.out.r).mono ?_
          rintro e y2 ⟨rfl, hr, hA⟩
          have HT6 := Lib.hid (HT5.out.left hr hA)
          clear hr hA
          go_wp2_with fail
          refine (mend_any g w.heap.size _ _ _ _ _ _ HT6.out.m).mono ?_
          rintro e y3 ⟨rfl, hm, hA⟩
          have HT7 := Lib.hid (HT6.out.right hm hA)
          clear hm hA
          go_wp2
          go_ret
          exact ⟨rfl, HT7.out.b⟩

set_option maxHeartbeats 8000000 in
set_option maxRecDepth 100000 in
theorem walk_none (a1 : Option Addr) (len1 cap1 : Nat) (L : Nat → It) (w : World) (hI : Items w a1 L len1) (hl1 : len1 ≤ 140737488355328) :
    Calls Try.prog 4 #[.slice none 0 0, .slice a1 len1 cap1] w fun e w' => e = .returned (.bool true) ∧ Below w.heap.size w w' := by
  obtain ⟨i0, hi, hz0, hz1, hz2⟩ := info_parts infoByte
  have HLN := Lib.hid (show ([] : List UInt8).length ≤ 140737488355328 by simp)
  have HBS := Lib.hid (show Bs w (.slice none 0 0) [] from .inl ⟨rfl, rfl⟩)
  have HLT := Lib.hid (fun (ad' : Addr) (h1 : none = some ad') (h2 : ([] : List UInt8) ≠ []) => (absurd rfl h2 : ad'.block < w.heap.size))
  have HI := Lib.hid hI
  clear hI
  go_enter Try.func4, Try.ntmps4
  have HO0 := Lib.hid (World.ownsRow_lit w #[] 0 (e := 5) (size := 1) (base := w.heap.size) (Nat.le_refl _) (by unfold maxLen; omega) rfl)
  go_wp2_with (first | (at_builtin; refine wpList_append_own_none rfl _ _ 28 rfl w.heap.size 5 i0 1 Try.underlying28 hi _ _ _ rfl HO0.out rfl ?_))
  obtain ⟨w1, hw1⟩ : ∃ w1, w1 = w.alloc (.cells #[] 5) := ⟨_, rfl⟩
  have b1 : Below w.heap.size w w1 := by rw [hw1]; exact below_n1 w _
  have HO1 := Lib.hid (show w1.ownsRow w.heap.size 5 1 (.slice (some ⟨w.heap.size, 0, none⟩) 0 0) ([] : List UInt8).length (vals []) by rw [hw1]; exact HO0.out)
  rw [← hw1]
  clear hw1 HO0
  have HB1 := Lib.hid (HBS.out.on b1)
  have hs1 := b1.size
  go_wp2_with fail
  refine (read_any ([] : List UInt8) _ _ (own_bs HO1.out) HLN.out).mono ?_
  rintro e w2 ⟨⟨gr, rfl, hRR⟩, hb2⟩
  have hs2 := hb2.size
  obtain ⟨D, hD⟩ : ∃ D, D = w1.heap.size := ⟨_, rfl⟩
  obtain ⟨g, hg⟩ : ∃ g, w2.heap.size = g := ⟨_, rfl⟩
  have b2 : Below w.heap.size w w2 := b1.trans (hb2.mono hs1)
  have HM3 := Lib.hid (show MAt g w.heap.size none 0 0 ([] : List UInt8) (([] : List UInt8), 0) (w2.alloc (.cells #[.slice none 0 0, .int .i64 0, .int .i64 0] 43)) from by rw [← hg]; exact MAt.start w2 b2.size (HB1.out.on hb2) (by omega) HLT.out)
  have HR3 := Lib.hid (show RR D g gr ([] : List UInt8) (w2.alloc (.cells #[.slice none 0 0, .int .i64 0, .int .i64 0] 43)) from by rw [hD, ← hg]; exact hRR.out.on (below_n1 _ _))
  have HS3 := Lib.hid (show Scr w.heap.size (some ⟨w.heap.size, 0, none⟩) 0 (w2.alloc (.cells #[.slice none 0 0, .int .i64 0, .int .i64 0] 43)) from own_scr (own_heap HO1.out fun q hq => ((hb2.alloc hs2 _).block q (by have := (HO1.out.lt q hq).2; omega))))
  have b3 : Below w.heap.size w (w2.alloc (.cells #[.slice none 0 0, .int .i64 0, .int .i64 0] 43)) := b2.alloc b2.size _
  have HQ := Lib.hid (show ∀ q : Nat, ((some ⟨w.heap.size, 0, none⟩) : Option Addr) = some ⟨q, 0, none⟩ → q < D from fun q hq => by rw [hD]; exact (HO1.out.lt q (by rw [hq]; rfl)).2)
  have hDg : D ≤ g := by omega
  have hND : w.heap.size ≤ D := by omega
  have hni : 0 ≤ 140737488355328 := by have := own_len HO1.out; have := HLN.out; omega
  clear hRR hb2 hs2 hD b2 HO1 HB1
  go_wp2_with fail
  clear hg
  go_loopw [21] (fun i wr => ∃ j : Nat, j ≤ 0 ∧ i = .int .i64 j ∧ Hid (Scr w.heap.size (some ⟨w.heap.size, 0, none⟩) 0 wr) ∧ Hid (RR D g gr ([] : List UInt8) wr) ∧ Hid (MAt g w.heap.size none 0 0 ([] : List UInt8) (([] : List UInt8), 0) wr) ∧ Below w.heap.size w wr) (fun i _ => 0 - (intOf i).toNat)
  case atStart => exact ⟨0, Nat.zero_le _, rfl, HS3, HR3, HM3, b3⟩
  case round =>
    obtain ⟨j, hj, rfl, HS, HR, HM, hbx⟩ := hrel
    by_cases hlt : j < 0
    · exact absurd hlt (Nat.not_lt_zero _)
    · have hnlt : ¬ (j : Int) < 0 := by omega
      have HT0 : Hid (Two (.pointer (some ⟨gr, 0, none⟩)) gr g g w.heap.size none 0 0 ([] : List UInt8) (([] : List UInt8), 0) (([] : List UInt8), 0) w wr) := Lib.hid (by
        have h := HR.out
        have hm := HM.out
        have hgs := hm.err.2.2
        exact ⟨Nat.le_refl _, by have := h.1; omega, by have := h.2.1; omega, by have := h.2.1; omega, .inr ⟨rfl, h.rat⟩, hm, hbx⟩)
      clear HS HR HM HS3 HR3 HM3 HQ hbx b3 b1
      go_wp2_with fail
      go_loopw [33] (fun i wx => ∃ k : Nat, k ≤ len1 ∧ k ≤ 60 ∧ i = .int .i64 k ∧ ∃ t, Hid (Two (.pointer (some ⟨gr, 0, none⟩)) gr g g w.heap.size none 0 0 ([] : List UInt8) t t w wx)) (fun i _ => len1 - (intOf i).toNat)
      case atStart => exact ⟨0, Nat.zero_le _, by omega, rfl, _, HT0⟩
      case round =>
        clear HT0
        obtain ⟨k, hk, hk60, rfl, t, HT⟩ := hrel
        by_cases hlt : k < len1
        · have hlt' : (k : Int) < len1 := by omega
          have hbk := HT.out.b
          have hsz := hbk.size
          obtain ⟨b, off, rfl, hblt, hok, hra, -⟩ := (HI.out.on hbk).at hlt
          obtain ⟨x, hx⟩ : ∃ x, x = L k := ⟨_, rfl⟩
          rw [← hx] at hok hra
          obtain ⟨cs, hcs⟩ : ∃ cs, cs = x.cells := ⟨_, rfl⟩
          have HSZ := Lib.hid (size_item hok)
          have HSZ2 := Lib.hid (size_item2 hok)
          have HAL := Lib.hid x.all
          have HZZ := Lib.hid (z39_size hok)
          rw [← hcs] at hra HSZ HSZ2 HAL HZZ
          have HRA := Lib.hid hra
          have HCS := Lib.hid hcs
          have HOK := Lib.hid hok
          clear hra hcs hx hok hbk
          obtain ⟨wq, hwq⟩ : ∃ wq, wq = wr.alloc (.cells cs.toArray 33) := ⟨_, rfl⟩
          have HQ := Lib.hid (show wq.heap[wr.heap.size]? = some (.cells cs.toArray 33) by rw [hwq]; exact heap_alloc_last wr _)
          have HT1 := Lib.hid (show Two (.pointer (some ⟨gr, 0, none⟩)) gr g g w.heap.size none 0 0 ([] : List UInt8) t t w wq by rw [hwq]; exact HT.out.on (below_n1 _ _))
          by_cases h60 : k < 60
          · have h60' : (k : Int) < 60 := by omega
            go_wp2_with (first | (with_reducible refine wpList_load_mid rfl 33 (.tmp 36) rfl b (off + k * 39) rfl cs _ HRA.out Try.underlying33 rfl HSZ.out ?_) | (with_reducible refine wpList_store_new rfl 33 (.tmp 10) (.tmp 37) rfl wr Z39 cs.toArray wr.heap.size rfl rfl rfl HSZ2.out HZZ.out HAL.out ?_; rw [← hwq]; clear hwq) | (with_reducible refine wpList_load_row rfl 33 (.tmp 10) rfl wr.heap.size rfl 33 cs.toArray (0, 0) _ HQ.out Try.underlying33 rfl HSZ2.out ?_))
            have HC := reads_any _ gr g g w.heap.size _ _ _ _ t w _ x HOK.out HT1.out
            rw [← HCS.out] at HC
            refine HC.mono ?_
            clear HC
            rintro e w4 ⟨rfl, t4, hT4⟩
            have HT4 := Lib.hid hT4
            clear hT4 HQ HT1 HT
            go_wp2_with fail
            go_roundw
            case rel => exact ⟨k + 1, by omega, by omega, by go_num, t4, HT4⟩
            case measure => simp [intOf]; omega
          · obtain rfl : k = 60 := by omega
            go_wp2_with (first | (with_reducible refine wpList_load_mid rfl 33 (.tmp 36) rfl b (off + 60 * 39) rfl cs _ HRA.out Try.underlying33 rfl HSZ.out ?_) | (with_reducible refine wpList_store_new rfl 33 (.tmp 10) (.tmp 37) rfl wr Z39 cs.toArray wr.heap.size rfl rfl rfl HSZ2.out HZZ.out HAL.out ?_; rw [← hwq]; clear hwq))
            clear HT
            have HT := HT1
            clear HT1
            go_wp2_with fail
            refine (awake_any _).mono ?_
            rintro e y1 ⟨rfl, hy1⟩
            have HT5 := Lib.hid (HT.out.on hy1)
            clear hy1
            go_wp2_with fail
            refine (end_any _ gr _ _ HT5.out.r).mono ?_
            rintro e y2 ⟨rfl, hr, hA⟩
            have HT6 := Lib.hid (HT5.out.left hr hA)
            clear hr hA
            go_wp2_with fail
            refine (mend_any g w.heap.size _ _ _ _ _ _ HT6.out.m).mono ?_
            rintro e y3 ⟨rfl, hm, hA⟩
            have HT7 := Lib.hid (HT6.out.right hm hA)
            clear hm hA
            go_wp2
            go_ret
            exact ⟨rfl, HT7.out.b⟩
        · obtain rfl : k = len1 := by omega
          go_wp2_with fail
          refine (awake_any _).mono ?_
          rintro e y1 ⟨rfl, hy1⟩
          have HT5 := Lib.hid (HT.out.on hy1)
          clear hy1
          go_wp2_with fail
          refine (end_any _ gr _ _ HT5.out.r).mono ?_
          rintro e y2 ⟨rfl, hr, hA⟩
          have HT6 := Lib.hid (HT5.out.left hr hA)
          clear hr hA
          go_wp2_with fail
          refine (mend_any g w.heap.size _ _ _ _ _ _ HT6.out.m).mono ?_
          rintro e y3 ⟨rfl, hm, hA⟩
          have HT7 := Lib.hid (HT6.out.right hm hA)
          clear hm hA
          go_wp2
          go_ret
          exact ⟨rfl, HT7.out.b⟩

theorem walk (a0 : Option Addr) (n0 c0 : Nat) (lb : List UInt8) (a1 : Option Addr) (len1 cap1 : Nat) (L : Nat → It) (w : World) (hb : Bs w (.slice a0 n0 c0) lb) (hn0 : n0 ≤ 140737488355328) (hI : Items w a1 L len1) (hl1 : len1 ≤ 140737488355328) :
    Calls Try.prog 4 #[.slice a0 n0 c0, .slice a1 len1 cap1] w fun e w' => e = .returned (.bool true) ∧ Below w.heap.size w w' := by
  have hn := bs_len hb
  rcases hb with ⟨h, rfl⟩ | ⟨ad, cap, h, hp⟩
  · rw [h]; exact walk_none a1 len1 cap1 L w hI hl1
  · cases h
    exact walk_some ad c0 lb a1 len1 cap1 L w hp (by omega) hI hl1
end Go.Proofs.Ytgabpmoibmhigaa.reelReadsW
