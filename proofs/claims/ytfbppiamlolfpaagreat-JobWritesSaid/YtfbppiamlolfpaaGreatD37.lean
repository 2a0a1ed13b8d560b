/- Jobs: Encode, by the program: the job of a scene, or why there is none. -/
import Derived.Test.YtfbppiamlolfpaaGreatD33
import Derived.Test.YtfbppiamlolfpaaGreatD34
import Derived.Deep.MidRow
namespace Go.Proofs.YtfbppiamlolfpaaGreat.Jw
open Go.RowKit Go.Proofs.YtfbppiamlolfpaaGreat Go.Proofs.YtfbppiamlolfpaaGreat.Rp Go.Proofs.YtfbppiamlolfpaaGreat.Re Go.Proofs.YtfbppiamlolfpaaGreat.Au Go.Proofs.YtfbppiamlolfpaaGreat.Tk Go.Proofs.YtfbppiamlolfpaaGreat.Sc
set_option linter.unusedVariables false
set_option linter.unusedSimpArgs false

/-- the job of a scene -/
def encScn (s : Scn) : List UInt8 := sceneB s.w s.h s.sm s.dp s.fr s.sh s.sd s.r s.g s.b s.ey s.lk s.wd s.np s.nt s.nj s.ns s.P s.way s.kn s.K s.J s.S

theorem ok_np {s : Scn} (h : (chk s).1 = 0) : s.np ≤ 32 := (whereB_ok (ok_chk h 1 (by omega))).1

theorem ok_nt {s : Scn} (h : (chk s).1 = 0) : s.nt ≤ 32 := (whereB_ok (ok_chk h 2 (by omega))).1

theorem ok_nj {s : Scn} (h : (chk s).1 = 0) : s.nj ≤ 32 := (whereB_ok (ok_chk h 3 (by omega))).1

theorem ok_ns {s : Scn} (h : (chk s).1 = 0) : s.ns ≤ 128 := (whereB_ok (ok_chk h 4 (by omega))).1

theorem ok_kn {s : Scn} (h : (chk s).1 = 0) (i : Nat) (hi : i < s.nt) : s.kn i ≤ 16 := by
  have h2 := (whereB_ok (ok_chk h 2 (by omega))).2 i hi
  unfold tB rightB at h2
  simp at h2
  omega

theorem enc_length {s : Scn} (h : (chk s).1 = 0) : 4 ≤ (encScn s).length ∧ (encScn s).length ≤ 1000000 := by
  have h1 := ok_np h
  have h2 := ok_nt h
  have h3 := ok_nj h
  have h4 := ok_ns h
  have h5 := tracksOf_length s.way s.kn s.K s.nt (fun i hi => Nat.le_trans (ok_kn h i hi) (by omega)) s.nt (Nat.le_refl _)
  have h6 := shapesOf_length s.S s.ns
  unfold encScn sceneB
  simp only [List.length_append, numsOf_length, bytesOf_length, mgL_length, paintsOf_length, jointsOf_length, List.length_cons, List.length_nil]
  constructor <;> omega

theorem trkAll {g B : Nat} {w1 w : World} {ta : Option Addr} {nt : Nat} {way : Nat → Int} {kn : Nat → Nat} {K : Nat → Nat → Int} (h : Tracks w1 ta nt way kn K) (hb : ∀ W, Aft g B w W → Below w1.heap.size w1 W) : TrkAll g B w ta nt way kn K := by
  rcases h.2 with h | ⟨b, off, e, hlt, h⟩
  · exact .inl h
  · refine .inr ⟨b, off, e, fun i hi => ?_⟩
    obtain ⟨ka, kc, q1, q2, q3⟩ := h i hi
    exact ⟨ka, kc, fun W hW => ⟨((hb W hW).cell (p := ⟨b, off + i * 2, none⟩) hlt).trans q1, ((hb W hW).cell (p := ⟨b, off + (i * 2 + 1), none⟩) hlt).trans q2, q3.on (hb W hW)⟩⟩

set_option maxHeartbeats 8000000 in
set_option maxRecDepth 100000 in
theorem jencode (s : Scn) (a : Pla) (w : World) (hs : ScAt w s a) :
    Calls Tryz.prog 8 #[SV s a] w fun e w' => ((¬ (chk s).1 = 0 ∧ e = .returned (.tuple #[.slice none 0 0, .int .i64 (chk s).1])) ∨ ((chk s).1 = 0 ∧ ∃ b n c, e = .returned (.tuple #[.slice b n c, .int .i64 0]) ∧ w'.ownsRow w.heap.size 5 1 (.slice b n c) (encScn s).length (vals (encScn s)))) ∧ Below w.heap.size w w' := by
  obtain ⟨c0, hc0⟩ : ∃ c0 : List Value, c0 = (SC s a).toList := ⟨_, rfl⟩
  have e0 : SV s a = .agg c0.toArray := by rw [hc0]
  have HE0 := Lib.hid e0
  have HB0 := Lib.hid (heap_alloc_last w (.cells c0.toArray 51))
  have HS0 := Lib.hid (hs.on (below_n1 w (.cells c0.toArray 51)))
  have HW0 := Lib.hid (below_n1 w (.cells c0.toArray 51))
  have HZA := Lib.hid (show (Tryz.prog.info? 51).map (·.size) = some c0.toArray.size by rw [hc0]; kernel_rfl)
  rw [e0]
  clear hs hc0 e0
  go_enter Tryz.func8, Tryz.ntmps8
  go_wp2_with (with_reducible refine wpList_load_row rfl 51 (.tmp 1) rfl w.heap.size rfl 51 c0.toArray (0, 0) _ HB0.out Tryz.underlying51 rfl HZA.out ?_)
  rw [← HE0.out]
  refine (check_any s a _ HS0.out).mono ?_
  rintro e w1 ⟨rfl, hb1⟩
  rw [HE0.out]
  have HB1 := Lib.hid ((hb1.block _ (lt_heap HB0.out)).trans HB0.out)
  have HS1 := Lib.hid (HS0.out.on hb1)
  have HW1 := Lib.hid (HW0.out.trans (hb1.mono HW0.out.size))
  obtain ⟨er, her⟩ : ∃ er, er = (chk s).1 := ⟨_, rfl⟩
  obtain ⟨ep, hep⟩ : ∃ ep, ep = (chk s).2 := ⟨_, rfl⟩
  rw [← her, ← hep]
  have HER := Lib.hid her
  clear her hep hb1 HB0 HS0 HW0
  by_cases h0 : er = 0
  · subst h0
    have HOK := Lib.hid HER.out.symm
    have hl0 := HW1.out.size
    have hlb := lt_heap HB1.out
    go_wp2_with fail
    refine (wnew _).mono ?_
    rintro e w2 ⟨rfl, hwp, hb2⟩
    have HB2 := Lib.hid ((hb2.block _ (lt_heap HB1.out)).trans HB1.out)
    have HW2 := Lib.hid (HW1.out.trans (hb2.mono hl0))
    have HP2 := Lib.hid hwp
    have HU2 := Lib.hid hb2
    obtain ⟨g, hg⟩ : ∃ g, g = w1.heap.size := ⟨_, rfl⟩
    have hg2 := hwp.size.2
    rw [← hg] at HP2 HU2 hg2 ⊢
    have HG := Lib.hid hg
    have hgw : w.heap.size < g := by omega
    clear hwp hb2 HB1 HW1 hg
    go_upto_region 5 with fail
    have hb3 := below_n1 w2 (.cells #[.pointer (some ⟨g, 0, none⟩)] 71)
    have hN := heap_alloc_last w2 (.cells #[.pointer (some ⟨g, 0, none⟩)] 71)
    obtain ⟨y3, hy3⟩ : ∃ y, w2.alloc (.cells #[.pointer (some ⟨g, 0, none⟩)] 71) = y := ⟨_, rfl⟩
    rw [hy3] at hb3 hN ⊢
    clear hy3
    have HB3 := Lib.hid ((hb3.block _ (lt_heap HB2.out)).trans HB2.out)
    have HP3 := Lib.hid (HP2.out.new hb3)
    have HU3 := Lib.hid (HU2.out.trans (hb3.mono (Nat.le_of_lt hg2)))
    have HW3 := Lib.hid (HW2.out.trans (hb3.mono HW2.out.size))
    have HN3 := Lib.hid hN
    have hl3 := lt_heap hN
    have hl2 := HU2.out.size
    have hc := cell_of_row _ _ 0 _ _ _ hN
    simp at hc
    clear hb3 hN HB2 HP2 HW2
    go_wp2_with (with_reducible refine wpList_load_row rfl 51 (.tmp 1) rfl w.heap.size rfl 51 c0.toArray (0, 0) _ HB3.out Tryz.underlying51 rfl HZA.out ?_)
    clear hc
    rw [← HE0.out]
    have HWW := Lib.hid (show ∀ W, Aft g g y3 W → Below w1.heap.size w1 W from fun W h => by rw [← HG.out]; exact HU3.out.trans (h.below (Nat.le_refl _) (Nat.le_refl _) (by omega)))
    refine (wscene g g [] s.w s.h s.sm s.dp s.fr s.sh s.sd s.r s.g s.b s.ey s.lk s.wd s.np s.nt s.nj s.ns s.P s.way s.kn s.K s.J s.S a.pa a.ta a.ja a.sa a.pc a.tc a.jc a.sc _ HP3.out (by simp) (by simp) HS1.out.sd (Nat.le_trans (ok_np HOK.out) (by omega)) (Nat.le_trans (ok_nt HOK.out) (by omega)) (Nat.le_trans (ok_nj HOK.out) (by omega)) (Nat.le_trans (ok_ns HOK.out) (by omega)) (fun i hi => Nat.le_trans (ok_kn HOK.out i hi) (by omega)) (fun W h => HS1.out.p.on (HWW.out W h)) (trkAll HS1.out.t HWW.out) (fun W h => HS1.out.j.on (HWW.out W h)) (fun W h => HS1.out.sh.on (HWW.out W h))).mono ?_
    rintro e w4 ⟨rfl, hp4, ha4⟩
    rw [HE0.out]
    rw [List.nil_append] at hp4
    have HP4 := Lib.hid (show WP g g (encScn s) w4 from hp4)
    have HW4 := Lib.hid (HW3.out.trans (ha4.below (B := w.heap.size) (by omega) (by omega) (by omega)))
    have hN4 := ha4.other _ _ _ _ (by omega) (by decide) HN3.out
    have hc := cell_of_row _ _ 0 _ _ _ hN4
    simp at hc
    clear hp4 ha4 hN4
    go_wp2_with fail
    clear hc
    have HLEN := enc_length HOK.out
    refine (wbytes_any g g _ _ HP4.out (by omega)).mono ?_
    rintro e w5 ⟨⟨b, n, c, rfl, how⟩, hb5⟩
    have HOW := Lib.hid how
    have HW5 := Lib.hid (HW4.out.trans (hb5.mono HW4.out.size))
    have hz4 := HW4.out.size
    clear how hb5
    go_wp2
    exact bodyPost_ret (v := .tuple #[.slice b n c, .int .i64 0]) (by simp [results, Tryz.results8, go_sem]) rfl ⟨.inr ⟨HOK.out, b, n, c, rfl, own_mono HOW.out hz4⟩, HW5.out⟩
  · have d1 : (er != 0) = true := by simp [h0]
    have d2 : (er == 0) = false := by simpa using h0
    have d3 := decide_eq_false h0
    go_wp2
    exact bodyPost_ret (v := .tuple #[.slice none 0 0, .int .i64 er]) (by simp [results, Tryz.results8, go_sem]) rfl ⟨.inl ⟨by rw [← HER.out]; exact h0, by rw [HER.out]⟩, HW1.out⟩

end Go.Proofs.YtfbppiamlolfpaaGreat.Jw
