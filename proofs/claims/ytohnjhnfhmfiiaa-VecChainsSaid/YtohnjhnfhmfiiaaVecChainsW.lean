/- The walk of VecChains: the law returns true, whatever list of matrices comes in; nothing that was there is written. -/
import Derived.Test.YtohnjhnfhmfiiaaVcb
import Derived.Test.YtohnjhnfhmfiiaaVcc
import Derived.Test.YtohnjhnfhmfiiaaVma
import Derived.Test.YtohnjhnfhmfiiaaVmq
import Derived.Test.YtohnjhnfhmfiiaaMq
import Derived.Test.YtohnjhnfhmfiiaaLs
namespace Go.Proofs.Ytohnjhnfhmfiiaa.vecChainsW
open Go.RowKit Go.Proofs.Ytohnjhnfhmfiiaa Go.Proofs.Ytohnjhnfhmfiiaa.Wa Go.Proofs.Ytohnjhnfhmfiiaa.Ve Go.Proofs.Ytohnjhnfhmfiiaa.Ls

theorem infoMat : (Try.prog.info? 31).map (fun i => (i.zero, i.size, i.bytes)) = some (some (.agg #[.int .i64 0, .int .i64 0, .int .i64 0, .int .i64 0, .int .i64 0, .int .i64 0, .int .i64 0, .int .i64 0, .int .i64 0, .int .i64 0, .int .i64 0, .int .i64 0]), 12, 96) := by kernel_rfl

/-- the values of a row's numbers -/
def flat12 (L : Nat → Int) (k : Nat) : List Value := (List.range (k * 12)).map fun j => .int .i64 (L j)

theorem flat12_step (L : Nat → Int) (k : Nat) : flat12 L (k + 1) = flat12 L k ++ [.int .i64 (L (k * 12)), .int .i64 (L (k * 12 + 1)), .int .i64 (L (k * 12 + 2)), .int .i64 (L (k * 12 + 3)), .int .i64 (L (k * 12 + 4)), .int .i64 (L (k * 12 + 5)), .int .i64 (L (k * 12 + 6)), .int .i64 (L (k * 12 + 7)), .int .i64 (L (k * 12 + 8)), .int .i64 (L (k * 12 + 9)), .int .i64 (L (k * 12 + 10)), .int .i64 (L (k * 12 + 11))] := by
  simp [flat12, show (k + 1) * 12 = k * 12 + 1 + 1 + 1 + 1 + 1 + 1 + 1 + 1 + 1 + 1 + 1 + 1 by omega, List.range_succ]

theorem flat12_at (L : Nat → Int) (k j : Nat) (h : j < k * 12) : (flat12 L k)[j]? = some (.int .i64 (L j)) := by
  simp [flat12, h]

theorem IsRow12.on {w w' : World} {a : Option Addr} {len : Nat} {L : Nat → Int} (h : IsRow12 w a len L) (hb : Below w.heap.size w w') : IsRow12 w' a len L := by
  rcases h with h | ⟨b, off, ha, hlt, hm, hc⟩
  · exact .inl h
  · exact .inr ⟨b, off, ha, Nat.lt_of_lt_of_le hlt hb.size, hm, fun j hj => (hb.cell (p := ⟨b, off + j, none⟩) hlt).trans (hc j hj)⟩

theorem chain_nil (w : World) : Calls Try.prog 30 #[.slice none 0 0] w fun e w' => e = .returned (MV (sizeN 65536)) ∧ Below w.heap.size w w' := chain_none none 0 w

theorem chain_own (v : Value) (k : Nat) (L : Nat → Int) (B : Nat) (hk : k ≤ 4611686018427387904) (w : World) (h : w.ownsRow B 31 12 v k (flat12 L k)) :
    Calls Try.prog 30 #[v] w fun e w' => e = .returned (MV (chainN L k)) ∧ Below w.heap.size w w' := by
  rcases h.2 with ⟨rfl, hn⟩ | ⟨g, cap, cur, rfl, -, -, -, -, -, -⟩
  · subst hn; exact chain_none none 0 w
  · exact chain_row g 0 k cap L hk w ⟨(h.lt g rfl).2, fun j hj => by rw [Nat.zero_add]; exact (h.cellAt j (by omega)).trans (flat12_at L k j hj)⟩

theorem rchain_is (a : Option Addr) (k cap : Nat) (L : Nat → Int) (hk : k ≤ 4611686018427387904) (w : World) (h : IsRow12 w a k L) :
    Calls Try.prog 31 #[.slice a k cap] w fun e w' => e = .returned (MV (chainN L k)) ∧ Below w.heap.size w w' := by
  rcases h with rfl | ⟨b, off, rfl, hb, -, hc⟩
  · exact rchain_none a cap w
  · exact rchain_row b off k cap L hk w ⟨hb, hc⟩

theorem IsRow12.cut {w : World} {a : Option Addr} {len k : Nat} {L : Nat → Int} (h : IsRow12 w a len L) (hk : k ≤ len) : IsRow12 w a k L := by
  rcases h with h | ⟨b, off, ha, hlt, hm, hc⟩
  · exact .inl (by omega)
  · exact .inr ⟨b, off, ha, hlt, by omega, fun j hj => hc j (by omega)⟩

set_option maxHeartbeats 4000000 in
set_option maxRecDepth 100000 in
theorem walk (a : Option Addr) (len cap : Nat) (L : Nat → Int) (w : World) (hr2 : IsRow12 w a len L ∧ len ≤ cap) :
    Calls Try.prog 4 #[.slice a len cap] w fun e w' => e = .returned (.bool true) ∧ Below w.heap.size w w' := by
  obtain ⟨hr, hcap⟩ := hr2
  obtain ⟨i0, hi, hz0, hz1, hz2⟩ := info_parts infoMat
  have HR := Lib.hid hr
  have hlen : len ≤ 4611686018427387904 := by
    rcases hr with h | ⟨b, off, -, -, h, -⟩ <;> omega
  clear hr
  go_enter Try.func4, Try.ntmps4
  go_wp2_with fail
  go_loopw [0, 3, 8] (fun s0 s3 s8 wr => ∃ k : Nat, k ≤ len ∧ k ≤ 20 ∧ s8 = .int .i64 k ∧ s0 = .slice a len cap ∧ wr.ownsRow w.heap.size 31 12 s3 k (flat12 L k) ∧ Below w.heap.size w wr) (fun _ _ s8 _ => len - (intOf s8).toNat)
  case atStart => exact ⟨0, by omega, by omega, rfl, rfl, World.ownsRow_nil _ _ _ _, Below.refl _ _⟩
  case round =>
    obtain ⟨k, hk, hk20, rfl, rfl, hin, hbk⟩ := hrel
    by_cases hlt : k < len
    · rcases HR.out with h0 | ⟨b, off, rfl, hb, hm, hc⟩
      · exact absurd hlt (by omega)
      · have hws := hbk.size
        have C0 : wr.cell? ⟨b, off + k * 12, none⟩ = some (.int .i64 (L (k * 12))) := (hbk.cell (p := ⟨b, off + (k * 12 + 0), none⟩) hb).trans (hc (k * 12 + 0) (by omega))
        have C1 : wr.cell? ⟨b, off + k * 12 + 1, none⟩ = some (.int .i64 (L (k * 12 + 1))) := (hbk.cell (p := ⟨b, off + (k * 12 + 1), none⟩) hb).trans (hc (k * 12 + 1) (by omega))
        have C2 : wr.cell? ⟨b, off + k * 12 + 2, none⟩ = some (.int .i64 (L (k * 12 + 2))) := (hbk.cell (p := ⟨b, off + (k * 12 + 2), none⟩) hb).trans (hc (k * 12 + 2) (by omega))
        have C3 : wr.cell? ⟨b, off + k * 12 + 3, none⟩ = some (.int .i64 (L (k * 12 + 3))) := (hbk.cell (p := ⟨b, off + (k * 12 + 3), none⟩) hb).trans (hc (k * 12 + 3) (by omega))
        have C4 : wr.cell? ⟨b, off + k * 12 + 4, none⟩ = some (.int .i64 (L (k * 12 + 4))) := (hbk.cell (p := ⟨b, off + (k * 12 + 4), none⟩) hb).trans (hc (k * 12 + 4) (by omega))
        have C5 : wr.cell? ⟨b, off + k * 12 + 5, none⟩ = some (.int .i64 (L (k * 12 + 5))) := (hbk.cell (p := ⟨b, off + (k * 12 + 5), none⟩) hb).trans (hc (k * 12 + 5) (by omega))
        have C6 : wr.cell? ⟨b, off + k * 12 + 6, none⟩ = some (.int .i64 (L (k * 12 + 6))) := (hbk.cell (p := ⟨b, off + (k * 12 + 6), none⟩) hb).trans (hc (k * 12 + 6) (by omega))
        have C7 : wr.cell? ⟨b, off + k * 12 + 7, none⟩ = some (.int .i64 (L (k * 12 + 7))) := (hbk.cell (p := ⟨b, off + (k * 12 + 7), none⟩) hb).trans (hc (k * 12 + 7) (by omega))
        have C8 : wr.cell? ⟨b, off + k * 12 + 8, none⟩ = some (.int .i64 (L (k * 12 + 8))) := (hbk.cell (p := ⟨b, off + (k * 12 + 8), none⟩) hb).trans (hc (k * 12 + 8) (by omega))
        have C9 : wr.cell? ⟨b, off + k * 12 + 9, none⟩ = some (.int .i64 (L (k * 12 + 9))) := (hbk.cell (p := ⟨b, off + (k * 12 + 9), none⟩) hb).trans (hc (k * 12 + 9) (by omega))
        have C10 : wr.cell? ⟨b, off + k * 12 + 10, none⟩ = some (.int .i64 (L (k * 12 + 10))) := (hbk.cell (p := ⟨b, off + (k * 12 + 10), none⟩) hb).trans (hc (k * 12 + 10) (by omega))
        have C11 : wr.cell? ⟨b, off + k * 12 + 11, none⟩ = some (.int .i64 (L (k * 12 + 11))) := (hbk.cell (p := ⟨b, off + (k * 12 + 11), none⟩) hb).trans (hc (k * 12 + 11) (by omega))
        by_cases h20 : k < 20
        · have HI := Lib.hid hin
          have HB := Lib.hid hbk
          clear hin hbk
          go_wp2_with fail
          refine (tomat_any (matAt L k) _).mono ?_
          rintro e w1 ⟨rfl, hb1⟩
          have HI2 := Lib.hid (own_below (own_below HI.out (below_n1 _ _)) hb1)
          have HB2 := Lib.hid (HB.out.trans ((below_c1 hb1).mono HB.out.size))
          have hs2 := HB2.out.size
          clear C0 C1 C2 C3 C4 C5 C6 C7 C8 C9 C10 C11
          go_wp2_with (first | (at_builtin; refine wpList_append_own _ rfl _ _ 48 rfl w.heap.size 31 i0 (.agg #[.int .i64 0, .int .i64 0, .int .i64 0, .int .i64 0, .int .i64 0, .int .i64 0, .int .i64 0, .int .i64 0, .int .i64 0, .int .i64 0, .int .i64 0, .int .i64 0]) 12 96 Try.underlying48 hi hz0 hz1 hz2 rfl (by decide) _ _ _ rfl (HI2.out.alloc _) ⟨w1.heap.size, 0, none⟩ 1 1 [.int .i64 (L (k * 12)), .int .i64 (L (k * 12 + 1)), .int .i64 (L (k * 12 + 2)), .int .i64 (L (k * 12 + 3)), .int .i64 (L (k * 12 + 4)), .int .i64 (L (k * 12 + 5)), .int .i64 (L (k * 12 + 6)), .int .i64 (L (k * 12 + 7)), .int .i64 (L (k * 12 + 8)), .int .i64 (L (k * 12 + 9)), .int .i64 (L (k * 12 + 10)), .int .i64 (L (k * 12 + 11))] rfl rfl ?c1 ?c2 ?c3 ?c4 ?c5 ?_))
          case c1 =>
            intro j u hj
            match j, hj with
            | 0, hj => simp at hj; subst hj; simp [Addr.add]; rfl
            | 1, hj => simp at hj; subst hj; simp [Addr.add]; rfl
            | 2, hj => simp at hj; subst hj; simp [Addr.add]; rfl
            | 3, hj => simp at hj; subst hj; simp [Addr.add]; rfl
            | 4, hj => simp at hj; subst hj; simp [Addr.add]; rfl
            | 5, hj => simp at hj; subst hj; simp [Addr.add]; rfl
            | 6, hj => simp at hj; subst hj; simp [Addr.add]; rfl
            | 7, hj => simp at hj; subst hj; simp [Addr.add]; rfl
            | 8, hj => simp at hj; subst hj; simp [Addr.add]; rfl
            | 9, hj => simp at hj; subst hj; simp [Addr.add]; rfl
            | 10, hj => simp at hj; subst hj; simp [Addr.add]; rfl
            | 11, hj => simp at hj; subst hj; simp [Addr.add]; rfl
          case c2 => intro u hu; simp at hu; rcases hu with rfl | rfl | rfl | rfl | rfl | rfl | rfl | rfl | rfl | rfl | rfl | rfl <;> rfl
          case c3 => unfold maxLen; omega
          case c4 => omega
          case c5 => simp; omega
          intro v5 w2 hin2 hgrow _
          rw [← flat12_step] at hin2
          have hb2 := (HB2.out.alloc hs2 _).grown hgrow (by simp; omega) (fun k hk => (HI2.out.lt k hk).1)
          go_wp2_with fail
          go_roundw
          case rel => exact ⟨k + 1, by omega, by omega, by go_num, rfl, hin2, hb2⟩
          case measure => simp [intOf]; omega
        · have hk61 : k ≤ 4611686018427387904 := by omega
          have HL := Lib.hid (IsRow12.cut HR.out hk)
          have HQ := Lib.hid (And.intro hin hbk)
          clear hin hbk
          go_upto_region 9 with fail
          have hin := own_below HQ.out.1 (below_n1 _ (.cells #[.int .i64 (L (k * 12)), .int .i64 (L (k * 12 + 1)), .int .i64 (L (k * 12 + 2)), .int .i64 (L (k * 12 + 3)), .int .i64 (L (k * 12 + 4)), .int .i64 (L (k * 12 + 5)), .int .i64 (L (k * 12 + 6)), .int .i64 (L (k * 12 + 7)), .int .i64 (L (k * 12 + 8)), .int .i64 (L (k * 12 + 9)), .int .i64 (L (k * 12 + 10)), .int .i64 (L (k * 12 + 11))] 26))
          have hbk := HQ.out.2.alloc HQ.out.2.size (.cells #[.int .i64 (L (k * 12)), .int .i64 (L (k * 12 + 1)), .int .i64 (L (k * 12 + 2)), .int .i64 (L (k * 12 + 3)), .int .i64 (L (k * 12 + 4)), .int .i64 (L (k * 12 + 5)), .int .i64 (L (k * 12 + 6)), .int .i64 (L (k * 12 + 7)), .int .i64 (L (k * 12 + 8)), .int .i64 (L (k * 12 + 9)), .int .i64 (L (k * 12 + 10)), .int .i64 (L (k * 12 + 11))] 26)
          have q1 := eq_m12 (chainN L k)
          have q2 := eq_m12 (sizeN 65536)
          clear C0 C1 C2 C3 C4 C5 C6 C7 C8 C9 C10 C11
          go_wp2_with (first | (go_at_call 15; refine (awake_any _).mono ?_; rintro e w9 ⟨rfl, hbn⟩; replace hin := own_below hin hbn; replace hbk := hbk.trans (hbn.mono hbk.size)) | (go_at_call 30; with_reducible refine (chain_own u3 k L _ hk61 _ hin).mono ?_; rintro e w9 ⟨rfl, hbn⟩; replace hin := own_below hin hbn; replace hbk := hbk.trans (hbn.mono hbk.size)) | (go_at_call 30; with_reducible refine (chain_nil _).mono ?_; rintro e w9 ⟨rfl, hbn⟩; replace hin := own_below hin hbn; replace hbk := hbk.trans (hbn.mono hbk.size)) | (go_at_call 22; refine (frommat_any _ _).mono ?_; rintro e w9 ⟨rfl, hbn⟩; replace hin := own_below hin hbn; replace hbk := hbk.trans (hbn.mono hbk.size)) | (go_at_call 31; refine (rchain_is _ k cap L hk61 _ (IsRow12.on HL.out hbk)).mono ?_; rintro e w9 ⟨rfl, hbn⟩; replace hin := own_below hin hbn; replace hbk := hbk.trans (hbn.mono hbk.size)) | (go_at_call 28; refine (rsize_any _ _).mono ?_; rintro e w9 ⟨rfl, hbn⟩; replace hin := own_below hin hbn; replace hbk := hbk.trans (hbn.mono hbk.size)))
          go_ret
          exact ⟨rfl, hbk⟩
    · obtain rfl : k = len := by omega
      have hk61 : k ≤ 4611686018427387904 := hlen
      have HL := Lib.hid HR.out
      have q1 := eq_m12 (chainN L k)
      have q2 := eq_m12 (sizeN 65536)
      go_wp2_with (first | (go_at_call 15; refine (awake_any _).mono ?_; rintro e w9 ⟨rfl, hbn⟩; replace hin := own_below hin hbn; replace hbk := hbk.trans (hbn.mono hbk.size)) | (go_at_call 30; with_reducible refine (chain_own u3 k L _ hk61 _ hin).mono ?_; rintro e w9 ⟨rfl, hbn⟩; replace hin := own_below hin hbn; replace hbk := hbk.trans (hbn.mono hbk.size)) | (go_at_call 30; with_reducible refine (chain_nil _).mono ?_; rintro e w9 ⟨rfl, hbn⟩; replace hin := own_below hin hbn; replace hbk := hbk.trans (hbn.mono hbk.size)) | (go_at_call 22; refine (frommat_any _ _).mono ?_; rintro e w9 ⟨rfl, hbn⟩; replace hin := own_below hin hbn; replace hbk := hbk.trans (hbn.mono hbk.size)) | (go_at_call 31; refine (rchain_is _ k cap L hk61 _ (IsRow12.on HL.out hbk)).mono ?_; rintro e w9 ⟨rfl, hbn⟩; replace hin := own_below hin hbn; replace hbk := hbk.trans (hbn.mono hbk.size)) | (go_at_call 28; refine (rsize_any _ _).mono ?_; rintro e w9 ⟨rfl, hbn⟩; replace hin := own_below hin hbn; replace hbk := hbk.trans (hbn.mono hbk.size)))
      go_ret
      exact ⟨rfl, hbk⟩

end Go.Proofs.Ytohnjhnfhmfiiaa.vecChainsW
