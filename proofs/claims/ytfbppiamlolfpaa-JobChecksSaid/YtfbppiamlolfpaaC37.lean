/- Scenes: the rules as questions; the contract of the lamps that are too many. -/
import Derived.Test.YtfbppiamlolfpaaC35
import Derived.Test.YtfbppiamlolfpaaC36
namespace Go.Proofs.Ytfbppiamlolfpaa.Sc
open Go.RowKit Go.Shelf Go.Proofs.Ytfbppiamlolfpaa Go.Proofs.Ytfbppiamlolfpaa.Wa Go.Proofs.Ytfbppiamlolfpaa.Ve Go.Proofs.Ytfbppiamlolfpaa.Tk Go.Proofs.Ytfbppiamlolfpaa.Ls
set_option linter.unusedVariables false

theorem once_head (s : Scn) (w : World) : Once w 28 #[HS s] #[] (hdB s) := fun W _ => by
  simpa using head_is s _ rfl W

theorem once_lens (s : Scn) (a : Pla) (w : World) : Once w 36 #[SV s a] #[] (lnB s) := fun W _ => by
  simpa using lens_any s a W

theorem asks_joint (s : Scn) (a : Pla) (w : World) (hs : ScAt w s a) : Asks w 34 #[SV s a] #[] s.nj (jB s) := fun k hk W hW => by
  obtain ⟨b, off, hba, hb, f0, f1, f2, f3⟩ := nums4 (hs.on hW).j hk
  have hj := hs.j.1
  have := joint_row s a b off k _ _ _ _ hba hk (by omega) W hb (Lib.hid ⟨f0, f1, f2, f3⟩)
  simpa [jB] using this

theorem asks_shape (s : Scn) (a : Pla) (w : World) (hs : ScAt w s a) : Asks w 35 #[SV s a] #[] s.ns (sB s) := fun k hk W hW => by
  obtain ⟨b, off, hba, hb, f0, f1, f2, f3, f4, f5, f6, f7, f8, f9, f10, f11, f12⟩ := nums13 (hs.on hW).sh hk
  have hj := hs.sh.1
  have := shape_row s a b off k _ _ _ _ _ _ _ _ _ _ _ _ _ hba hk (by omega) W hb (Lib.hid ⟨f0, f1, f2, f3, f4, f5, f6, f7, f8, f9, f10, f11, f12⟩)
  have e := shape_b s.nj s.np (row13 s k)
  simp only [row13, Nat.add_zero] at e
  rw [e] at this
  simpa [sB] using this

set_option maxHeartbeats 4000000 in
theorem paint_at (s : Scn) (a : Pla) (q k : Nat) (hk : k < s.np) (w : World) (hs : ScAt w s a) (hq : SBox w q s a) :
    Calls Try.prog 30 #[.int .i64 (k : Int), .pointer (some ⟨q, 0, none⟩)] w fun e w' => e = .returned (.bool (pB s k)) ∧ Below w.heap.size w w' := by
  obtain ⟨pa, pc, ta, tc, ja, jc, sa, sc⟩ := a
  obtain ⟨b, off, hba, hb, f0, f1, f2, f3, f4⟩ := nums5 hs.p hk
  have hba' : pa = some ⟨b, off, none⟩ := hba
  subst hba'
  have hnp := hs.p.1
  have hk' : (k : Int) < s.np := by omega
  obtain ⟨q0, q⟩ := hq
  have c13 := q.2.2.2.2.2.2.2.2.2.2.2.2.2.1
  clear q hs hba
  obtain ⟨y0, hy0⟩ : ∃ y, y = s.P (k * 5) := ⟨_, rfl⟩
  obtain ⟨y1, hy1⟩ : ∃ y, y = s.P (k * 5 + 1) := ⟨_, rfl⟩
  obtain ⟨y2, hy2⟩ : ∃ y, y = s.P (k * 5 + 2) := ⟨_, rfl⟩
  obtain ⟨y3, hy3⟩ : ∃ y, y = s.P (k * 5 + 3) := ⟨_, rfl⟩
  obtain ⟨y4, hy4⟩ : ∃ y, y = s.P (k * 5 + 4) := ⟨_, rfl⟩
  have HP := Lib.hid (show pB s k = paintB y0 y1 y2 y3 y4 by rw [hy0, hy1, hy2, hy3, hy4]; rfl)
  rw [← hy0] at f0
  rw [← hy1] at f1
  rw [← hy2] at f2
  rw [← hy3] at f3
  rw [← hy4] at f4
  clear hy0 hy1 hy2 hy3 hy4
  go_enter Try.func30, Try.ntmps30
  go_wp2_with fail
  refine (paint_any _ _ _ _ _ _).mono ?_
  rintro e w1 ⟨rfl, hb1⟩
  go_wp2
  go_ret
  exact ⟨by rw [HP.out]; rfl, hb1⟩

theorem asks_paint (s : Scn) (a : Pla) (q : Nat) (w : World) (hs : ScAt w s a) (hq : SBox w q s a) : Asks w 30 #[] #[.pointer (some ⟨q, 0, none⟩)] s.np (pB s) := fun k hk W hW => by
  simpa using paint_at s a q k hk W (hs.on hW) (hq.on hW)

set_option maxHeartbeats 4000000 in
theorem track_at (s : Scn) (a : Pla) (q k : Nat) (hk : k < s.nt) (w : World) (hs : ScAt w s a) (hq : SBox w q s a) :
    Calls Try.prog 32 #[.int .i64 (k : Int), .pointer (some ⟨q, 0, none⟩)] w fun e w' => e = .returned (.bool (tB s k)) ∧ Below w.heap.size w w' := by
  obtain ⟨pa, pc, ta, tc, ja, jc, sa, sc⟩ := a
  have hnt := hs.t.1
  obtain ⟨-, h | ⟨b, off, hba, hb, hc⟩⟩ := hs.t
  · omega
  obtain ⟨ka, kc, f0, f1, hka⟩ := hc k hk
  have hba' : ta = some ⟨b, off, none⟩ := hba
  subst hba'
  rw [show off + (k * 2 + 1) = off + k * 2 + 1 by omega] at f1
  have hk' : (k : Int) < s.nt := by omega
  obtain ⟨q0, q⟩ := hq
  have c14 := q.2.2.2.2.2.2.2.2.2.2.2.2.2.2.1
  clear q hs hba hc
  have HK := Lib.hid hka
  clear hka
  obtain ⟨y0, hy0⟩ : ∃ y, y = s.way k := ⟨_, rfl⟩
  obtain ⟨y1, hy1⟩ : ∃ y, y = s.kn k := ⟨_, rfl⟩
  have HP := Lib.hid (show tB s k = rightB y0 y1 (s.K k) by rw [hy0, hy1]; rfl)
  rw [← hy0] at f0
  rw [← hy1] at f1 HK
  clear hy0 hy1
  go_enter Try.func32, Try.ntmps32
  go_wp2_with fail
  refine (right_any _ _ _ _ _ _ HK.out).mono ?_
  rintro e w1 ⟨rfl, hb1⟩
  go_wp2
  go_ret
  exact ⟨by rw [HP.out]; rfl, hb1⟩

theorem asks_track (s : Scn) (a : Pla) (q : Nat) (w : World) (hs : ScAt w s a) (hq : SBox w q s a) : Asks w 32 #[] #[.pointer (some ⟨q, 0, none⟩)] s.nt (tB s) := fun k hk W hW => by
  simpa using track_at s a q k hk W (hs.on hW) (hq.on hW)

theorem lampW_few {s : Scn} (h : (lamps s).length ≤ 16) : lampW s = -1 := by simp [lampW, h]

theorem lampW_many {s : Scn} (h : 16 < (lamps s).length) : lampW s = ((lamps s).getD 16 0 : Nat) := by
  unfold lampW; rw [if_neg (by omega)]

set_option maxHeartbeats 4000000 in
theorem many_any (s : Scn) (a : Pla) (w : World) (hs : ScAt w s a) :
    Calls Try.prog 37 #[SV s a] w fun e w' => e = .returned (.int .i64 (lampW s)) ∧ Below w.heap.size w w' := by
  have HS := Lib.hid (hs.on (below_n1 w (.cells (SC s a) 51)))
  have hlb : (lamps s).length ≤ s.ns := lampsTo_len s s.ns
  have hns := hs.sh.1
  clear hs
  go_enter Try.func37, Try.ntmps37
  go_wp2_with fail
  refine (lamps_any s a _ HS.out).mono ?_
  rintro e w1 ⟨⟨v, rfl, hO⟩, hb1⟩
  have hb2 := (below_n1 w (.cells (SC s a) 51)).trans (hb1.mono (below_n1 w (.cells (SC s a) 51)).size)
  obtain ⟨l, hl⟩ : ∃ l, l = (lamps s).length := ⟨_, rfl⟩
  by_cases h16 : l ≤ 16
  · have h16' : (l : Int) ≤ 16 := by omega
    have HW := Lib.hid (lampW_few (s := s) (by omega))
    obtain ⟨a9, c9, rfl⟩ := own_form hO
    rw [← hl]
    clear hO hl
    go_wp2
    go_ret
    exact ⟨by rw [HW.out]; rfl, hb2⟩
  · have h16' : ¬ (l : Int) ≤ 16 := by omega
    have h17 : (16 : Int) < l := by omega
    have HW := Lib.hid (lampW_many (s := s) (by omega))
    obtain ⟨g, cap, hv, hc⟩ : ∃ g cap, v = .slice (some ⟨g, 0, none⟩) (lamps s).length cap ∧ w1.cell? ⟨g, 16, none⟩ = some (.int .i64 ((lamps s).getD 16 0 : Nat)) := by
      rcases hO.2 with ⟨hv, h0⟩ | ⟨g, cap, cur, rfl, -, -, -, -, -, -⟩
      · omega
      · refine ⟨g, cap, rfl, ?_⟩
        have := hO.cellAt 16 (by omega)
        rw [this, ivals, List.getElem?_map, List.getD_eq_getElem?_getD, List.getElem?_eq_getElem (show 16 < (lamps s).length by omega)]
        rfl
    subst hv
    rw [← hl]
    clear hO hl
    go_wp2
    go_ret
    exact ⟨by rw [HW.out]; rfl, hb2⟩

theorem where_many (s : Scn) (a : Pla) (w : World) (hs : ScAt w s a) : Where w 37 #[SV s a] #[] (lampW s) := fun W hW => by
  simpa using many_any s a W (hs.on hW)

theorem ent_head : Ent 28 := fun args W => enters_of Try.func28 (by kernel_rfl) rfl args W

theorem ent_lens : Ent 36 := fun args W => enters_of Try.func36 (by kernel_rfl) rfl args W

theorem ent_joint : Ent 34 := fun args W => enters_of Try.func34 (by kernel_rfl) rfl args W

theorem ent_shape : Ent 35 := fun args W => enters_of Try.func35 (by kernel_rfl) rfl args W

theorem ent_many : Ent 37 := fun args W => enters_of Try.func37 (by kernel_rfl) rfl args W

theorem ent_c1 : Ent 30 := fun args W => enters_of Try.func30 (by kernel_rfl) rfl args W

theorem ent_c2 : Ent 32 := fun args W => enters_of Try.func32 (by kernel_rfl) rfl args W

end Go.Proofs.Ytfbppiamlolfpaa.Sc
