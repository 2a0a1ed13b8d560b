/- The example of layer 9: bytes that are no job. -/
import Derived.Test.YtfbppiamlolfpaaGreatD47
import Derived.Lib.SlBytesConst
import Derived.Test.YtfbppiamlolfpaaGreatD38
namespace Go.Proofs.YtfbppiamlolfpaaGreat.Jb
open Go Go.RowKit Go.Proofs.YtfbppiamlolfpaaGreat Go.Proofs.YtfbppiamlolfpaaGreat.Rp Go.Proofs.YtfbppiamlolfpaaGreat.Re Go.Proofs.YtfbppiamlolfpaaGreat.Au Go.Proofs.YtfbppiamlolfpaaGreat.Sc Go.Proofs.YtfbppiamlolfpaaGreat.Tk
set_option linter.unusedVariables false
set_option linter.unusedSimpArgs false

theorem par1 : parE [90, 79, 69, 50] = 20 := by decide +kernel

theorem par2 : parE [90, 79] = 9 := by decide +kernel

theorem infoZC : (Tryz.prog.info? 51).map (·.size) = some zeroC.size := infoSC

theorem zeroSz : (#[.int .i64 0, .int .i64 0, .int .i64 0, .int .i64 0, .int .i64 0, .int .i64 0, .int .u64 0, .int .i64 0, .int .i64 0, .int .i64 0, .int .i64 0, .int .i64 0, .int .i64 0, .slice none 0 0, .slice none 0 0, .slice none 0 0, .slice none 0 0] : Array Value).size = zeroC.size := rfl

theorem zeroOne : zeroC.all (·.oneCell') = true := by simp [zeroC, Value.oneCell']

set_option maxHeartbeats 4000000 in
set_option maxRecDepth 100000 in
theorem jawake (w : World) : Calls Tryz.prog 7 #[] w fun e w' => e = .returned (.bool true) ∧ Below w.heap.size w w' := by
  have kc := fun (w : World) (C : Array Value) (n c : Nat) => Lib.run_convert_bytes_const (P := Tryz.prog) w 35 5 C n c Tryz.underlying35 Tryz.underlying5
  go_enter Tryz.func7, Tryz.ntmps7
  go_wp2_with fail
  refine (jparse [90, 79, 69, 50] _ 4 4 _ (bs_block [90, 79, 69, 50] 4 (heap_alloc_last _ _)) rfl).mono ?_
  rintro e w1 ⟨h1, hb1⟩
  rw [par1] at h1
  rcases h1 with ⟨-, rfl⟩ | ⟨h1, -⟩
  rotate_left
  · exact absurd h1 (by decide)
  have HU1 := Lib.hid ((Ve.below_n1 w _).trans (hb1.mono (by simp)))
  clear hb1
  go_upto_region 2 with (with_reducible refine wpList_store_new rfl 51 (.tmp 1) (.tmp 9) rfl w1 #[.int .i64 0, .int .i64 0, .int .i64 0, .int .i64 0, .int .i64 0, .int .i64 0, .int .u64 0, .int .i64 0, .int .i64 0, .int .i64 0, .int .i64 0, .int .i64 0, .int .i64 0, .slice none 0 0, .slice none 0 0, .slice none 0 0, .slice none 0 0] zeroC w1.heap.size rfl rfl rfl infoZC zeroSz zeroOne ?_)
  have hbn := Ve.below_n1 w1 (.cells zeroC 51)
  have hNn := heap_alloc_last w1 (.cells zeroC 51)
  obtain ⟨y2, hyn⟩ : ∃ y, w1.alloc (.cells zeroC 51) = y := ⟨_, rfl⟩
  rw [hyn] at hbn hNn ⊢
  clear hyn
  have HU2 := Lib.hid (HU1.out.trans (hbn.mono HU1.out.size))
  clear hbn hNn
  go_wp2_with fail
  refine (jparse [90, 79] _ 2 2 _ (bs_block [90, 79] 2 (heap_alloc_last _ _)) rfl).mono ?_
  rintro e w3 ⟨h3, hb3⟩
  rw [par2] at h3
  rcases h3 with ⟨-, rfl⟩ | ⟨h3, -⟩
  rotate_left
  · exact absurd h3 (by decide)
  have HU3 := Lib.hid (HU2.out.trans (((Ve.below_n1 y2 _).trans (hb3.mono (by simp))).mono HU2.out.size))
  clear hb3 HU2
  go_upto_region 3 with (with_reducible refine wpList_store_new rfl 51 (.tmp 3) (.tmp 15) rfl w3 #[.int .i64 0, .int .i64 0, .int .i64 0, .int .i64 0, .int .i64 0, .int .i64 0, .int .u64 0, .int .i64 0, .int .i64 0, .int .i64 0, .int .i64 0, .int .i64 0, .int .i64 0, .slice none 0 0, .slice none 0 0, .slice none 0 0, .slice none 0 0] zeroC w3.heap.size rfl rfl rfl infoZC zeroSz zeroOne ?_)
  have hbn := Ve.below_n1 w3 (.cells zeroC 51)
  have hNn := heap_alloc_last w3 (.cells zeroC 51)
  obtain ⟨y4, hyn⟩ : ∃ y, w3.alloc (.cells zeroC 51) = y := ⟨_, rfl⟩
  rw [hyn] at hbn hNn ⊢
  clear hyn
  have HU4 := Lib.hid (HU3.out.trans (hbn.mono HU3.out.size))
  clear hbn hNn HU3
  go_wp2
  go_ret
  exact ⟨rfl, HU4.out⟩

end Go.Proofs.YtfbppiamlolfpaaGreat.Jb

/- Jobs: both Encodes' answers, in one form. -/
namespace Go.Proofs.YtfbppiamlolfpaaGreat.Jd
open Go.RowKit Go.Proofs.YtfbppiamlolfpaaGreat Go.Proofs.YtfbppiamlolfpaaGreat.Rp Go.Proofs.YtfbppiamlolfpaaGreat.Re Go.Proofs.YtfbppiamlolfpaaGreat.Au Go.Proofs.YtfbppiamlolfpaaGreat.Tk
open Go.Proofs.YtfbppiamlolfpaaGreat.Sc (Scn Pla SC SV ScAt Nums Tracks chk rcheck_any nums4 nums5 nums13)
open Go.Proofs.YtfbppiamlolfpaaGreat.Jw
set_option linter.unusedVariables false
set_option linter.unusedSimpArgs false

/-- a scene's job, or nothing -/
def jobOf (s : Scn) : List UInt8 := if (chk s).1 = 0 then encScn s else []

theorem own_len {base : Nat} {w : World} {b : Option Addr} {n c k : Nat} {xs : List Value} (h : w.ownsRow base 5 1 (.slice b n c) k xs) : n = k := by
  rcases h.2 with ⟨h1, h2⟩ | ⟨g, cap, cur, h1, -⟩
  · simp at h1; omega
  · simp at h1; exact h1.2.1

theorem jenc2 (s : Scn) (a : Pla) (w : World) (hs : ScAt w s a) :
    Calls Tryz.prog 8 #[SV s a] w fun e w' => (∃ b n c, e = .returned (.tuple #[.slice b n c, .int .i64 (chk s).1]) ∧ Bs w' (.slice b n c) (jobOf s)) ∧ Below w.heap.size w w' :=
  (jencode s a w hs).mono fun e w' ⟨h1, h2⟩ => ⟨by
    rcases h1 with ⟨h3, h4⟩ | ⟨h3, b, n, c, h4, h5⟩
    · exact ⟨none, 0, 0, h4, .inl ⟨rfl, by unfold jobOf; rw [if_neg h3]⟩⟩
    · exact ⟨b, n, c, by rw [h3]; exact h4, by unfold jobOf; rw [if_pos h3]; exact own_bs h5⟩, h2⟩

set_option maxHeartbeats 4000000 in
set_option maxRecDepth 100000 in
theorem dbad (s : Scn) (a : Pla) (w : World) (hs : ScAt w s a) (h : ¬ (chk s).1 = 0) :
    Calls Tryz.prog 10 #[SV s a] w fun e w' => e = .returned (.tuple #[.slice none 0 0, .int .i64 (chk s).1]) ∧ Below w.heap.size w w' := by
  obtain ⟨c0, hc0⟩ : ∃ c0 : List Value, c0 = (SC s a).toList := ⟨_, rfl⟩
  have e0 : SV s a = .agg c0.toArray := by rw [hc0]
  have HE0 := Lib.hid e0
  have HB0 := Lib.hid (heap_alloc_last w (.cells c0.toArray 32))
  have HS0 := Lib.hid (hs.on (below_n1 w (.cells c0.toArray 32)))
  have HW0 := Lib.hid (below_n1 w (.cells c0.toArray 32))
  have HZA := Lib.hid (show (Tryz.prog.info? 32).map (·.size) = some c0.toArray.size by rw [hc0]; kernel_rfl)
  rw [e0]
  clear hs hc0 e0
  go_enter Tryz.func10, Tryz.ntmps10
  go_wp2_with (with_reducible refine wpList_load_row rfl 32 (.tmp 1) rfl w.heap.size rfl 32 c0.toArray (0, 0) _ HB0.out Tryz.underlying32 rfl HZA.out ?_)
  rw [← HE0.out]
  refine (rcheck_any s a _ HS0.out).mono ?_
  rintro e w1 ⟨rfl, hb1⟩
  rw [HE0.out]
  have HW1 := Lib.hid (HW0.out.trans (hb1.mono HW0.out.size))
  obtain ⟨er, her⟩ : ∃ er, er = (chk s).1 := ⟨_, rfl⟩
  obtain ⟨ep, hep⟩ : ∃ ep, ep = (chk s).2 := ⟨_, rfl⟩
  rw [← her, ← hep]
  rw [← her] at h
  have HER := Lib.hid her
  clear her hep hb1 HB0 HS0 HW0
  have d1 : (er != 0) = true := by simp [h]
  have d2 : (er == 0) = false := by simpa using h
  have d3 := decide_eq_false h
  go_wp2
  exact bodyPost_ret (v := .tuple #[.slice none 0 0, .int .i64 er]) (by simp [results, Tryz.results10, go_sem]) rfl ⟨by rw [HER.out], HW1.out⟩

theorem dencode (s : Scn) (a : Pla) (w : World) (hs : ScAt w s a) :
    Calls Tryz.prog 10 #[SV s a] w fun e w' => (∃ b n c, e = .returned (.tuple #[.slice b n c, .int .i64 (chk s).1]) ∧ Bs w' (.slice b n c) (jobOf s)) ∧ Below w.heap.size w w' := by
  by_cases h : (chk s).1 = 0
  · have C := fun (W : World) (hW : Below w.heap.size w W) => rcheck_any s a W (hs.on hW)
    rw [h] at C
    refine (dmade s.w s.h s.sm s.dp s.fr s.sh s.sd s.r s.g s.b s.ey s.lk s.wd s.np s.nt s.nj s.ns s.P s.way s.kn s.K s.J s.S a.pa a.ta a.ja a.sa a.pc a.tc a.jc a.sc (chk s).2 w C hs.sd (Nat.le_trans (ok_np h) (by omega)) (Nat.le_trans (ok_nt h) (by omega)) (Nat.le_trans (ok_nj h) (by omega)) (Nat.le_trans (ok_ns h) (by omega)) (fun i hi => Nat.le_trans (ok_kn h i hi) (by omega)) (fun W hW => hs.p.on hW) (trkB hs.t) (fun W hW => hs.j.on hW) (fun W hW => hs.sh.on hW)).mono fun e w' ⟨⟨b, n, c, h1, h2⟩, h3⟩ => ⟨⟨b, n, c, by rw [h]; exact h1, ?_⟩, h3⟩
    unfold jobOf
    rw [if_pos h]
    exact own_bs h2
  · refine (dbad s a w hs h).mono fun e w' ⟨h1, h3⟩ => ⟨⟨none, 0, 0, h1, .inl ⟨rfl, ?_⟩⟩, h3⟩
    unfold jobOf
    rw [if_neg h]

end Go.Proofs.YtfbppiamlolfpaaGreat.Jd
