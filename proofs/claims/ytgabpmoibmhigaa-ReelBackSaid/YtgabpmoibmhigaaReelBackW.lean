/- The walk of ReelBack: whatever the input it returns true, and nothing that was there is written. -/
import Derived.Test.YtgabpmoibmhigaaRnb
import Derived.Deep.RegionHeld3
import Derived.StillTailTactics
import Derived.Laws.BitsAllLaws
namespace Go.Proofs.Ytgabpmoibmhigaa.reelBackW
open Go.RowKit Go.Proofs.Ytgabpmoibmhigaa Go.Proofs.Ytgabpmoibmhigaa.Re Go.Proofs.Ytgabpmoibmhigaa.Rp
set_option linter.unusedVariables false

/-- what holds while the values are held in place: the writer has laid nothing, the values lie in row q -/
def Hold (N q g n : Nat) (M : Nat → It) (l : List UInt8) (w0 w : World) : Prop := WAt g (fun k => k < N ∨ k = q) l w ∧ Row39 q n M w ∧ Below N w0 w ∧ N ≤ q ∧ q < w.heap.size ∧ N ≤ g ∧ g ≠ q
theorem Hold.put {N q g n : Nat} {M M' : Nat → It} {l : List UInt8} {w0 w : World} (h : Hold N q g n M l w0 w) (j : Nat) (u : Value) (hr : Row39 q n M' (w.setCell ⟨q, j, none⟩ u)) : Hold N q g n M' l w0 (w.setCell ⟨q, j, none⟩ u) := by
  obtain ⟨hw, -, hb, h1, h2, h3, h4⟩ := h
  refine ⟨?_, hr, hb.setCell (p := ⟨q, j, none⟩) h1 u, h1, by simpa using h2, h3, h4⟩
  obtain ⟨k1, k2, k0, k3, v, k4, k5, k6⟩ := hw
  exact ⟨by simpa using k1, fun k hk => by simpa using k2 k hk, k0, fun j => by rw [World.frozen?_setCell]; exact k3 j, v, by rw [cfar h4]; exact k4, own_heap k5 fun q' hq => Below.heap_setCell _ _ _ _ (fun e => (k6 q' hq).1 (.inr e)), k6⟩

theorem Hold.drew {N q g n : Nat} {M : Nat → It} {l : List UInt8} {w0 w : World} (h : Hold N q g n M l w0 w) : Hold N q g n M l w0 w.drew := by
  obtain ⟨hw, hr, hb, h1, h2, h3, h4⟩ := h
  exact ⟨hw.on ((Below.refl _ _).drew), hr.on ((Below.refl _ _).drew) h2, hb.drew, h1, h2, h3, h4⟩

theorem Hold.on {N q g n : Nat} {M : Nat → It} {l : List UInt8} {w0 w w' : World} (h : Hold N q g n M l w0 w) (hbl : Below w.heap.size w w') : Hold N q g n M l w0 w' := by
  obtain ⟨hw, hr, hb, h1, h2, h3, h4⟩ := h
  exact ⟨hw.on hbl, hr.on hbl h2, hb.trans (hbl.mono (by omega)), h1, Nat.lt_of_lt_of_le h2 hbl.size, h3, h4⟩
theorem Hold.lay {N q g n : Nat} {M : Nat → It} {l l' : List UInt8} {w0 w w' : World} (h : Hold N q g n M l w0 w) (hw' : WAt g (fun k => k < N ∨ k = q) l' w') (ha : Aw (fun k => k < N ∨ k = q) w w') : Hold N q g n M l' w0 w' := by
  obtain ⟨hw, hr, hb, h1, h2, h3, h4⟩ := h
  exact ⟨hw', ⟨fun i hi j v hv => (ha.cell (p := ⟨q, i * 39 + j, none⟩) (.inr rfl) h2).trans (hr.1 i hi j v hv), fun j => (ha.frozen (p := ⟨q, j, none⟩) (.inr rfl) h2).trans (hr.2.1 j), fun _ => Nat.lt_of_lt_of_le h2 ha.size⟩, hb.trans (ha.below (fun k hk => .inl hk) (by omega)), h1, Nat.lt_of_lt_of_le h2 ha.size, h3, h4⟩

/-- what is known of a value while it is laid and read back -/
def Fine (x : It) (w : World) : Prop := ItOk x ∧ Bs w (.slice x.a x.plen x.pcap) x.p ∧ x.p.length ≤ 3000 ∧ (-2147483648 ≤ x.n ∧ x.n ≤ 2147483648) ∧ (-2147483648 ≤ x.v0 ∧ x.v0 ≤ 2147483648) ∧ (-2147483648 ≤ x.v1 ∧ x.v1 ≤ 2147483648) ∧ (-2147483648 ≤ x.v2 ∧ x.v2 ≤ 2147483648)

/-- what holds while the values are asked back: a reader of what is left, the values in row q -/
structure Ans (N q gr B n : Nat) (M : Nat → It) (s : St) (w0 w : World) : Prop where
  r : RP (.pointer (some ⟨gr, 0, none⟩)) gr B s w
  row : Row39 q n M w
  b : Below N w0 w
  nq : N ≤ q
  ql : q < w.heap.size
  ng : N ≤ gr
  ne : gr ≠ q
  gl : gr < w.heap.size
  bl : B ≤ w.heap.size
theorem Ans.on {N q gr B n : Nat} {M : Nat → It} {s : St} {w0 w w' : World} (h : Ans N q gr B n M s w0 w) (hb : Below w.heap.size w w') : Ans N q gr B n M s w0 w' := by
  have h1 := h.nq
  have h2 := h.ql
  exact ⟨h.r.new hb, h.row.on hb h.ql, h.b.trans (hb.mono (by omega)), h.nq, Nat.lt_of_lt_of_le h.ql hb.size, h.ng, h.ne, Nat.lt_of_lt_of_le h.gl hb.size, Nat.le_trans h.bl hb.size⟩
theorem Ans.go {N q gr B n : Nat} {M : Nat → It} {s s' : St} {w0 w w' : World} (h : Ans N q gr B n M s w0 w) (hr : RP (.pointer (some ⟨gr, 0, none⟩)) gr B s' w') (ha : Aft gr w.heap.size w w') : Ans N q gr B n M s' w0 w' := by
  have h1 := h.nq
  have h2 := h.ql
  exact ⟨hr, ⟨fun i hi j v hv => (ha.cell (p := ⟨q, i * 39 + j, none⟩) h.ql h.ql (Ne.symm h.ne)).trans (h.row.1 i hi j v hv), fun j => (ha.frozen (p := ⟨q, j, none⟩) h.ql h.ql (Ne.symm h.ne)).trans (h.row.2.1 j), fun _ => Nat.lt_of_lt_of_le h.ql ha.size⟩,
    h.b.trans (ha.below h.ng (by omega) (by omega)), h.nq, Nat.lt_of_lt_of_le h.ql ha.size, h.ng, h.ne, Nat.lt_of_lt_of_le h.gl ha.size, Nat.le_trans h.bl ha.size⟩
theorem encsFrom_next (M : Nat → It) (n k : Nat) (hk : k < n) : encsFrom M n (n - k) = enc (M k) ++ encsFrom M n (n - (k + 1)) := by
  obtain ⟨j, hj⟩ : ∃ j, n - k = j + 1 := ⟨n - k - 1, by omega⟩
  rw [hj, encsFrom, show n - (j + 1) = k by omega, show n - (k + 1) = j by omega]

set_option maxHeartbeats 8000000 in
set_option maxRecDepth 100000 in
theorem walk_some (b off cap1 : Nat) (len1 : Nat) (L : Nat → It) (w : World) (hb : b < w.heap.size) (hL : ∀ k, k < len1 → ItOk (L k) ∧ w.rangeAt b (off + k * 39) (L k).cells ∧ Bs w (.slice (L k).a (L k).plen (L k).pcap) (L k).p) (hl1 : len1 ≤ 140737488355328) :
    Calls Try.prog 5 #[.slice (some ⟨b, off, none⟩) len1 cap1] w fun e w' => e = .returned (.bool true) ∧ Below w.heap.size w w' := by
  obtain ⟨i0, hi, hz0, hz1, hz2⟩ := info_parts infoItem
  have HL := Lib.hid hL
  have HI := Lib.hid (show Items w (some ⟨b, off, none⟩) L len1 from .inr ⟨b, off, rfl, hb, hL⟩)
  clear hL
  go_enter Try.func5, Try.ntmps5
  go_wp2_with fail
  refine (fits_any _ len1 cap1 L _ HI.out hl1).mono ?_
  rintro e w1 ⟨⟨r, rfl, hr⟩, b1⟩
  cases r
  case false =>
    go_wp2_with fail
    refine (awake_any _).mono ?_
    rintro e w2 ⟨rfl, hb2⟩
    have b2 := b1.trans (hb2.mono b1.size)
    go_wp2_with fail
    go_ret
    exact ⟨rfl, b2⟩
  case true =>
    obtain ⟨hr1, hr2⟩ := hr rfl
    have HK := Lib.hid (fun k (hk : k < len1) => (HL.out k hk).1)
    have HP := Lib.hid (show ∀ k, k < len1 → (L k).p.length ≤ 3000 from fun k hk => by
      have h3 := (HL.out k hk).2.2
      have := bs_len h3; have := hr2 k hk; omega)
    clear hr hr2
    go_wp2_with fail
    refine (new_any _).mono ?_
    rintro e w2 ⟨rfl, hw2⟩
    have b2 : Below w.heap.size w w2 := by rw [hw2]; exact b1.alloc b1.size _
    obtain ⟨g, hg⟩ : ∃ g, g = w1.heap.size := ⟨_, rfl⟩
    have hgw : w.heap.size ≤ g := by rw [hg]; exact b1.size
    have hgs : g < w2.heap.size := by rw [hg, hw2]; simp
    have HW0 := Lib.hid (show w2.cell? ⟨g, 0, none⟩ = some (.slice none 0 0) ∧ ∀ j, w2.frozen? ⟨g, j, none⟩ = false from by rw [hg, hw2]; exact ⟨by go_simp, fun j => by go_simp⟩)
    rw [← hg]
    have HF := Lib.hid (fun j u hu => old1 (.cells #[] 33) (flat_at HK.out (fun k hk j v hv => (b2.cell (p := ⟨b, off + k * 39 + j, none⟩) hb).trans ((HL.out k hk).2.1 j v hv)) j u hu))
    clear hw2 hg b1
    go_wp2_with (first | (at_builtin; refine wpList_append_own _ rfl _ _ 22 rfl w2.heap.size 33 i0 (.agg Z39) 39 104 Try.underlying22 hi hz0 hz1 hz2 (by kernel_rfl) (by decide) _ _ _ rfl (World.ownsRow_lit w2 #[] 0 (Nat.le_refl _) (by unfold maxLen; omega) rfl) ⟨b, off, none⟩ len1 cap1 (flat L len1) rfl ?c1 HF.out (flat_one L len1) ?c3 ?c4 ?c5 ?_))
    case c1 => exact flat_length HK.out len1 (Nat.le_refl _)
    case c3 => unfold maxLen; omega
    case c4 => omega
    case c5 => simp
    intro v' w3 hown hgrow hnil
    have b3 : Below w2.heap.size w2 w3 := (below_n1 w2 (.cells #[] 33)).grown hgrow (by simp) (fun q hq => by simp [Value.ownBlock] at hq; omega)
    have HO := Lib.hid (show w3.ownsRow w2.heap.size 33 39 v' len1 (flat L len1) by simpa using hown)
    obtain ⟨q, cap, hv⟩ : ∃ q cap, v' = .slice (some ⟨q, 0, none⟩) len1 cap := by
      rcases HO.out.2 with ⟨h, -⟩ | ⟨q, cap', cur, h, -⟩
      · exact (hnil h).elim
      · exact ⟨q, cap', h⟩
    subst hv
    obtain ⟨hrow, hq1, hq2⟩ := row_of_own HK.out HO.out
    have b3w : Below w.heap.size w w3 := b2.trans (b3.mono b2.size)
    have HH : Hid (Hold w.heap.size q g len1 (held L 0) [] w w3) := Lib.hid ⟨by
        have hgs3 : g < w3.heap.size := Nat.lt_of_lt_of_le hgs b3.size
        exact ⟨hgs3, fun k hk => by have := b3w.size; rcases hk with hk | hk <;> omega, by omega, fun j => (b3.frozen (p := ⟨g, j, none⟩) hgs).trans (HW0.out.2 j), _, (b3.cell (p := ⟨g, 0, none⟩) hgs).trans HW0.out.1, World.ownsRow_nil _ _ _ _, (fun q hq => by cases hq)⟩,
      hrow.congr (fun k hk => by unfold held; rw [if_neg (by omega)]), b3w, by have := b2.size; omega, hq2, hgw, by omega⟩
    clear hown hgrow hnil HO hrow hq1 hq2 b3w b3 b2 HF HW0 hgs hgw
    go_wp2_with fail
    go_loopw [22] (fun i wr => ∃ k : Nat, k ≤ len1 ∧ i = .int .i64 k ∧ Hid (Hold w.heap.size q g len1 (held L k) [] w wr)) (fun i _ => len1 - (intOf i).toNat)
    case atStart => exact ⟨0, Nat.zero_le _, rfl, HH⟩
    case round =>
      clear HH
      obtain ⟨k, hk, rfl, HH⟩ := hrel
      by_cases hlt : k < len1
      · have hlt' : (k : Int) < len1 := by omega
        have hcn := row_n_cell hlt HH.out.2.1
        have hfq := HH.out.2.1.2.1 (k * 39 + 1)
        have HH2 := Lib.hid (HH.out.put _ _ (row_n HK.out hlt HH.out.2.1))
        obtain ⟨nn, hnn⟩ : ∃ nn, nn = (L k).n := ⟨_, rfl⟩
        rw [← hnn] at hcn HH2
        clear hnn
        go_wp2_with fail
        refine (hold_any nn _).mono ?_
        rintro e wz ⟨rfl, rfl⟩
        obtain ⟨hn, hhn⟩ : ∃ hn, hn = hold nn := ⟨_, rfl⟩
        rw [← hhn] at HH2 ⊢
        clear hhn HH
        go_wp2_with fail
        go_loopw [35] (fun i wr => ∃ j : Nat, j ≤ 3 ∧ i = .int .i64 j ∧ Hid (Hold w.heap.size q g len1 (heldV L k j) [] w wr)) (fun i _ => 3 - (intOf i).toNat)
        case atStart => exact ⟨0, by omega, rfl, HH2⟩
        case round =>
          clear HH2 hcn hfq
          obtain ⟨j, hj, rfl, HH⟩ := hrel
          by_cases hj3 : j < 3
          · have hj3' : (j : Int) < 3 := by omega
            have hcv := row_v_cell hlt hj3 HH.out.2.1
            have hfq := HH.out.2.1.2.1 (k * 39 + (2 + j))
            have HHd := Lib.hid (HH.out.drew)
            have HH2 := Lib.hid (HHd.out.put _ _ (row_v HK.out hlt hj3 HHd.out.2.1))
            obtain ⟨nn, hnn⟩ : ∃ nn, nn = (L k).vv j := ⟨_, rfl⟩
            rw [← hnn] at hcv HH2
            have hidx : k * 39 + 2 + j = k * 39 + (2 + j) := by omega
            obtain ⟨hm, hhm⟩ : ∃ hm, hold nn = hm := ⟨_, rfl⟩
            rw [hhm] at HH2
            have HC := Lib.hid (show ∀ y : World, Calls Try.prog 18 #[.int .i64 nn] y fun e w' => e = .returned (.int .i64 hm) ∧ w' = y from fun y => by rw [← hhm]; exact hold_any nn y)
            clear hnn hhm HH HHd
            go_wp2_with fail
            refine wp_region_any (by kernel_rfl) ?_
            refine wpAny_take (i := 0) (v := ?_) rfl (by kernel_rfl) (by kernel_rfl) (by kernel_rfl) (fun _ _ _ h => h) (Or.inl ⟨by kernel_rfl, by (intro wz; go_simp; try with_reducible rfl)⟩) ?_
            go_simp
            refine wpAny_take (i := 1) (v := ?_) rfl (by kernel_rfl) (by kernel_rfl) (by kernel_rfl) (fun _ _ _ h => h) (Or.inl ⟨by kernel_rfl, by (intro wz; go_simp; try with_reducible rfl)⟩) ?_
            go_simp
            refine wpAny_take (i := 2) (v := ?_) rfl (by kernel_rfl) (by kernel_rfl) (by kernel_rfl) (fun _ _ _ h => h) (Or.inl ⟨by kernel_rfl, by (intro wz; go_simp; try with_reducible rfl)⟩) ?_
            go_simp
            refine wpAny_take (i := 3) (v := ?_) rfl (by kernel_rfl) (by kernel_rfl) (by kernel_rfl) (fun _ _ _ h => h) (Or.inl ⟨by kernel_rfl, by (intro wz; go_simp; try with_reducible rfl)⟩) ?_
            go_simp
            refine wpAny_take (i := 4) (v := ?_) rfl (by kernel_rfl) (by kernel_rfl) (by kernel_rfl) (fun _ _ _ h => h) (Or.inl ⟨by kernel_rfl, by (intro wz; go_simp; try with_reducible rfl)⟩) ?_
            go_simp
            refine wpAny_take (i := 5) (v := ?_) rfl (by kernel_rfl) (by kernel_rfl) (by kernel_rfl) (fun _ _ _ h => h) (Or.inl ⟨by kernel_rfl, by (intro wz; go_simp; try with_reducible rfl)⟩) ?_
            go_simp
            refine wpAny_take (i := 6) (v := ?_) rfl (by kernel_rfl) (by kernel_rfl) (by kernel_rfl) (fun _ _ _ h => h) (Or.inl ⟨by kernel_rfl, by (intro wz; go_simp; try with_reducible rfl)⟩) ?_
            go_simp
            refine wpAny_take (i := 7) (v := ?_) rfl (by kernel_rfl) (by kernel_rfl) (by kernel_rfl) (fun _ _ _ h => h) (Or.inl ⟨by kernel_rfl, by (intro wz; go_simp; try with_reducible rfl)⟩) ?_
            go_simp
            refine wpAny_take (i := 8) (v := ?_) rfl (by kernel_rfl) (by kernel_rfl) (by kernel_rfl) (fun _ _ _ h => h) (Or.inl ⟨by kernel_rfl, by (intro wz; go_simp; try with_reducible rfl)⟩) ?_
            go_simp
            refine wpAny_take (i := 11) (v := ?_) rfl (by kernel_rfl) (by kernel_rfl) (by kernel_rfl) (fun _ _ _ h => h) (Or.inl ⟨by kernel_rfl, by (intro wz; go_simp; try with_reducible rfl)⟩) ?_
            go_simp
            refine wpAny_take (i := 12) (v := ?_) rfl (by kernel_rfl) (by kernel_rfl) (by kernel_rfl) (fun _ _ _ h => h) (Or.inl ⟨by kernel_rfl, by (intro wz; go_simp; try with_reducible rfl)⟩) ?_
            go_simp
            refine wpAny_ready (rs := [9]) (by kernel_rfl) (by simp) ?_
            refine AllReady.cons rfl (fun K hK => ?_) AllReady.nil
            go_simp
            go_wp2_with fail
            refine wpAny_ready (rs := [10]) (by kernel_rfl) (by simp) ?_
            refine AllReady.cons rfl (fun K hK => ?_) AllReady.nil
            go_simp
            go_wp2_with (go_at_call 18; refine (HC.out _).mono ?_; rintro e wz ⟨rfl, rfl⟩)
            refine wpAny_take (i := 13) (v := ?_) rfl (by kernel_rfl) (by kernel_rfl) (by kernel_rfl) (fun _ _ _ h => h) (Or.inl ⟨by kernel_rfl, by (intro wz; go_simp; try with_reducible rfl)⟩) ?_
            go_simp
            refine wpAny_ready (rs := [14]) (by kernel_rfl) (by simp) ?_
            refine AllReady.cons rfl (fun K hK => ?_) AllReady.nil
            go_simp
            go_wp2_with fail
            refine wpAny_done (by kernel_rfl) ?_ _
            go_wp2_with fail
            go_roundw
            case rel => exact ⟨j + 1, by omega, by go_num, HH2⟩
            case measure => simp [intOf]; omega
          · obtain rfl : j = 3 := by omega
            have HH2 := Lib.hid (show Hold w.heap.size q g len1 (held L (k + 1)) [] w wr from ⟨HH.out.1, row_next HH.out.2.1, HH.out.2.2⟩)
            go_wp2_with fail
            go_roundw
            case rel => exact ⟨k + 1, by omega, by go_num, HH2⟩
            case measure => simp [intOf]; omega
      · have hnl : ¬ (k : Int) < len1 := by omega
        have hk1 : k = len1 := by omega
        obtain ⟨M, hM⟩ : ∃ M, M = held L len1 := ⟨_, rfl⟩
        have HH0 : Hid (Hold w.heap.size q g len1 M (encs M 0) w wr) := Lib.hid (by have h := HH.out; rw [hk1] at h; rw [hM]; exact h)
        have HFI := Lib.hid (show ∀ i, i < len1 → Fine (M i) w from fun i hi => by
          have e : M i = (L i).hold := by rw [hM]; unfold held; rw [if_pos hi]
          rw [e]
          exact ⟨It.hold_ok (HK.out i hi), (HL.out i hi).2.2, HP.out i hi, hold_span _, hold_span _, hold_span _, hold_span _⟩)
        clear hM HH HK HP HL HI hk1
        go_wp2_with fail
        go_loopw [56] (fun i wr => ∃ k : Nat, k ≤ len1 ∧ i = .int .i64 k ∧ Hid (Hold w.heap.size q g len1 M (encs M k) w wr)) (fun i _ => len1 - (intOf i).toNat)
        case atStart => exact ⟨0, Nat.zero_le _, rfl, HH0⟩
        case round =>
          clear HH0 hnl hlt hk
          obtain ⟨k, hk, rfl, HH⟩ := hrel
          have hql := HH.out.2.2.2.2.1
          by_cases hlt : k < len1
          · have hlt' : (k : Int) < len1 := by omega
            obtain ⟨hok, hbs, hp, -⟩ := HFI.out k hlt
            have hra := HH.out.2.1.1 k hlt
            have hel := encs_length (fun i hi => ⟨(HFI.out i hi).1, (HFI.out i hi).2.2.1⟩) k (by omega)
            obtain ⟨x, hx⟩ : ∃ x, x = M k := ⟨_, rfl⟩
            rw [← hx] at hok hbs hp hra
            obtain ⟨cs, hcs⟩ : ∃ cs, cs = x.cells := ⟨_, rfl⟩
            have HSZ := Lib.hid (size_item hok)
            have HSZ2 := Lib.hid (size_item2 hok)
            have HAL := Lib.hid x.all
            have HZZ := Lib.hid (z39_size hok)
            rw [← hcs] at hra HSZ HSZ2 HAL HZZ
            have HRA := Lib.hid hra
            have HCS := Lib.hid hcs
            have HOK := Lib.hid hok
            have HX := Lib.hid hx
            have HSS := Lib.hid (fun (ad : Addr) (h1 : x.a = some ad) (h2 : x.p ≠ []) => bs_block_lt hbs h1 h2)
            have HPL := Lib.hid hp
            have HEL := Lib.hid (show (encs M k).length ≤ 1000000 by omega)
            obtain ⟨wq, hwq⟩ : ∃ wq, wq = wr.alloc (.cells cs.toArray 33) := ⟨_, rfl⟩
            have HQ := Lib.hid (show wq.heap[wr.heap.size]? = some (.cells cs.toArray 33) by rw [hwq]; exact heap_alloc_last wr _)
            have HW1 := Lib.hid (show WAt g (fun j => (j < w.heap.size ∨ j = q) ∨ j = wr.heap.size) (encs M k) wq by rw [hwq]; exact HH.out.1.push _)
            have HH1 := Lib.hid (show Hold w.heap.size q g len1 M (encs M k) w wq by rw [hwq]; exact HH.out.on (below_n1 _ _))
            have HBS1 := Lib.hid (show Bs wq (.slice x.a x.plen x.pcap) x.p from (hbs.on (HH1.out.2.2.1)))
            clear hra hcs hx hok hbs hp hel HH
            go_wp2_with (first | (with_reducible refine wpList_load_mid rfl 33 (.tmp 58) rfl q (k * 39) rfl cs _ HRA.out Try.underlying33 rfl HSZ.out ?_) | (with_reducible refine wpList_store_new rfl 33 (.tmp 7) (.tmp 59) rfl wr Z39 cs.toArray wr.heap.size rfl rfl rfl HSZ2.out HZZ.out HAL.out ?_; rw [← hwq]; clear hwq) | (with_reducible refine wpList_load_row rfl 33 (.tmp 7) rfl wr.heap.size rfl 33 cs.toArray (0, 0) _ HQ.out Try.underlying33 rfl HSZ2.out ?_))
            have HC := lay_any g _ (encs M k) x HOK.out _ HW1.out HBS1.out (fun ad h1 h2 => .inl (.inl (HSS.out ad h1 h2))) HPL.out HEL.out
            rw [← HCS.out] at HC
            refine HC.mono ?_
            clear HC
            rintro e w4 ⟨rfl, hw4, ha4⟩
            have HH4 := Lib.hid (show Hold w.heap.size q g len1 M (encs M (k + 1)) w w4 from by
              have h := HH1.out.lay (hw4.weak fun j h => .inl h) (ha4.weak fun j h => .inl h)
              rw [HX.out] at h
              exact h)
            clear hw4 ha4 HW1 HH1 HBS1 HQ
            go_wp2_with fail
            go_roundw
            case rel => exact ⟨k + 1, by omega, by go_num, HH4⟩
            case measure => simp [intOf]; omega
          · have hnl : ¬ (k : Int) < len1 := by omega
            have hk1 : k = len1 := by omega
            have hel := encs_length (fun i hi => ⟨(HFI.out i hi).1, (HFI.out i hi).2.2.1⟩) k (by omega)
            obtain ⟨lw, hlw⟩ : ∃ lw, lw = encs M k := ⟨_, rfl⟩
            rw [← hlw] at HH hel
            have HLW := Lib.hid (show encsFrom M len1 len1 = lw by rw [hlw, hk1]; exact encsFrom_all M len1)
            have hlen : lw.length ≤ 1000000 := by omega
            clear hel hlw hk1
            go_wp2_with fail
            refine (bytes_any g _ lw _ HH.out.1 (by omega)).mono ?_
            rintro e w3 ⟨⟨ba, bn, bc, rfl, hob⟩, hb3⟩
            have HH3 := Lib.hid (HH.out.on hb3)
            have HBB := Lib.hid (own_bs hob)
            have hs3 := hb3.size
            clear hob HH hb3
            go_wp2_with fail
            refine (read_any lw _ _ HBB.out (by omega)).mono ?_
            rintro e w4 ⟨⟨gr, rfl, hRR⟩, hb4⟩
            obtain ⟨B, hB⟩ : ∃ B, B = w4.heap.size := ⟨_, rfl⟩
            rw [← hB] at hRR
            have HA0 : Hid (Ans w.heap.size q gr B len1 M (encsFrom M len1 (len1 - 0), 0) w w4) := Lib.hid (by
              have h := hRR.out
              have h3 := HH3.out.on hb4
              obtain ⟨-, hrow, hbel, hnq, hq4, -, -⟩ := h3
              have hqw : q < w3.heap.size := by omega
              refine ⟨.inr ⟨rfl, ?_⟩, hrow, hbel, hnq, hq4, ?_, ?_, ?_, ?_⟩
              · rw [Nat.sub_zero, HLW.out]; exact h.rat
              · have := h.1; omega
              · have := h.1; omega
              · have := h.2.1; omega
              · omega)
            clear hRR hB hb4 HH3 HBB HLW hs3
            go_wp2_with fail
            go_loopw [69] (fun i wr => ∃ k : Nat, k ≤ len1 ∧ i = .int .i64 k ∧ Hid (Ans w.heap.size q gr B len1 M (encsFrom M len1 (len1 - k), 0) w wr)) (fun i _ => len1 - (intOf i).toNat)
            case atStart => exact ⟨0, Nat.zero_le _, rfl, HA0⟩
            case round =>
              clear HA0 hnl hlt hk
              obtain ⟨k, hk, rfl, HA⟩ := hrel
              have hql := HA.out.ql
              by_cases hlt : k < len1
              · have hlt' : (k : Int) < len1 := by omega
                obtain ⟨hok, hbs, hp, hsn, hs0, hs1, hs2⟩ := HFI.out k hlt
                have hra := HA.out.row.1 k hlt
                have hneq : wr.heap.size ≠ gr := fun e => by have := HA.out.gl; omega
                have hnx := encsFrom_next M len1 k hlt
                obtain ⟨l, hl⟩ : ∃ l, l = encsFrom M len1 (len1 - (k + 1)) := ⟨_, rfl⟩
                obtain ⟨x, hx⟩ : ∃ x, x = M k := ⟨_, rfl⟩
                rw [← hl, ← hx] at hnx
                rw [← hx] at hok hbs hp hra hsn hs0 hs1 hs2
                have HLl := Lib.hid hl
                have hd32 := hok.1
                obtain ⟨cs, hcs⟩ : ∃ cs, cs = x.cells := ⟨_, rfl⟩
                have HSZ := Lib.hid (size_item hok)
                have HSZ2 := Lib.hid (size_item2 hok)
                have HAL := Lib.hid x.all
                have HZZ := Lib.hid (z39_size hok)
                have HX := Lib.hid (fun (y : World) (hb : y.heap[wr.heap.size]? = some (.cells x.cells.toArray 33)) => box_facts (w := y) hok hb)
                rw [← hcs] at hra HSZ HSZ2 HAL HZZ HX
                have HRA := Lib.hid hra
                obtain ⟨wq, hwq⟩ : ∃ wq, wq = wr.alloc (.cells cs.toArray 33) := ⟨_, rfl⟩
                have HQ := Lib.hid (show wq.heap[wr.heap.size]? = some (.cells cs.toArray 33) by rw [hwq]; exact heap_alloc_last wr _)
                have HA1 := Lib.hid (show Ans w.heap.size q gr B len1 M (enc x ++ l, 0) w wq by rw [hwq, ← hnx]; exact HA.out.on (below_n1 _ _))
                have HBS := Lib.hid (show Bs wq (.slice x.a x.plen x.pcap) x.p from hbs.on HA1.out.b)
                have HFB := Lib.hid (fun (y : World) (hb : Below w.heap.size w y) => hbs.on hb)
                obtain ⟨⟨c0, -⟩, -⟩ := HX.out _ HQ.out
                obtain ⟨kd, hkd⟩ : ∃ kd, kd = x.kind := ⟨_, rfl⟩
                have hkd2 := hkd
                obtain ⟨nn, hnn⟩ : ∃ nn, nn = x.n := ⟨_, rfl⟩
                obtain ⟨z0, hz0⟩ : ∃ z, z = x.v0 := ⟨_, rfl⟩
                obtain ⟨z1, hz1⟩ : ∃ z, z = x.v1 := ⟨_, rfl⟩
                obtain ⟨z2, hz2⟩ : ∃ z, z = x.v2 := ⟨_, rfl⟩
                rw [← hkd] at c0
                rw [← hnn] at HX hsn
                rw [← hz0] at HX hs0
                rw [← hz1] at HX hs1
                rw [← hz2] at HX hs2
                clear hra hcs hx hok hbs hnx hl HA
                by_cases ho : kd < 0 ∨ 8 < kd
                · have HE : enc x = [] := by unfold enc; rw [if_neg (by omega), if_neg (by omega), if_neg (by omega), if_neg (by omega), if_neg (by omega), if_neg (by omega), if_neg (by omega), if_neg (by omega), if_neg (by omega)]
                  have HA3 := Lib.hid (show Ans w.heap.size q gr B len1 M (l, 0) w wq from by have h := HA1.out; rw [HE, List.nil_append] at h; exact h)
                  have e0 : (kd == 0) = false := by simp; omega
                  have e1 : (kd == 1) = false := by simp; omega
                  have e2 : (kd == 2) = false := by simp; omega
                  have e3 : (kd == 3) = false := by simp; omega
                  have e4 : (kd == 4) = false := by simp; omega
                  have e5 : (kd == 5) = false := by simp; omega
                  have e6 : (kd == 6) = false := by simp; omega
                  have e7 : (kd == 7) = false := by simp; omega
                  have e8 : (kd == 8) = false := by simp; omega
                  clear HE HA1 hkd hkd2 hnn hz0 hz1 hz2 HX HQ HBS
                  go_wp2_with (first | (with_reducible refine wpList_load_mid rfl 33 (.tmp 71) rfl q (k * 39) rfl cs _ HRA.out Try.underlying33 rfl HSZ.out ?_) | (with_reducible refine wpList_store_new rfl 33 (.tmp 10) (.tmp 72) rfl wr Z39 cs.toArray wr.heap.size rfl rfl rfl HSZ2.out HZZ.out HAL.out ?_; rw [← hwq]; clear hwq))
                  have HAN := Lib.hid (show Ans w.heap.size q gr B len1 M (encsFrom M len1 (len1 - (k + 1)), 0) w _ from by have h := HA3.out; rw [HLl.out] at h; exact h)
                  go_wp2_with (go_at_call 30; refine (err_any _ gr _ _ HA3.out.r).mono ?_; rintro e y9 ⟨rfl, rfl⟩)
                  go_roundw
                  case rel => exact ⟨k + 1, by omega, by go_num, HAN⟩
                  case measure => simp [intOf]; omega
                · have hc : kd = 0 ∨ kd = 1 ∨ kd = 2 ∨ kd = 3 ∨ kd = 4 ∨ kd = 5 ∨ kd = 6 ∨ kd = 7 ∨ kd = 8 := by omega
                  clear ho
                  rcases hc with hk | hk | hk | hk | hk | hk | hk | hk | hk
                  · have HE : enc x = bytesOf (u64 x.n) 1 := by unfold enc; simp [← hkd2, hk]
                    rw [HE] at HA1
                    subst hk
                    rw [← hnn] at HA1
                    obtain ⟨y, hy⟩ : ∃ y : Int, y = ((u64 nn % 256 ^ 1 : Nat) : Int) := ⟨_, rfl⟩
                    have hyb : 0 ≤ y ∧ y ≤ 255 := by rw [hy]; omega
                    obtain ⟨cc, hcc⟩ : ∃ cc, IntKind.u8.wrap nn = cc := ⟨_, rfl⟩
                    have hcy : IntKind.u8.wrap y = cc := by
                      have hu := u64_cast nn
                      rw [← hcc, show IntKind.u8.wrap y = y % 256 by simp [IntKind.wrap, IntKind.bits, IntKind.signed], show IntKind.u8.wrap nn = nn % 256 by simp [IntKind.wrap, IntKind.bits, IntKind.signed], hy]
                      omega
                    have HV := Lib.hid (show numS (bytesOf (u64 nn) 1 ++ l, 0) 1 = ((u64 nn % 256 ^ 1), (l, 0)) from num_app _ _ _)
                    have HY := Lib.hid hy
                    clear hy
                    clear HE hkd hkd2 hnn hz0 hz1 hz2
                    go_wp2_with (first | (with_reducible refine wpList_load_mid rfl 33 (.tmp 71) rfl q (k * 39) rfl cs _ HRA.out Try.underlying33 rfl HSZ.out ?_) | (with_reducible refine wpList_store_new rfl 33 (.tmp 10) (.tmp 72) rfl wr Z39 cs.toArray wr.heap.size rfl rfl rfl HSZ2.out HZZ.out HAL.out ?_; rw [← hwq]; clear hwq))
                    have HA2 := HA1.out.on ((Below.refl _ _).drew)
                    refine wp_region_held_drew (S := fun y => y.heap[wr.heap.size]? = some (.cells cs.toArray 33)) (by kernel_rfl) HQ.out (fun hS0 => ?_)
                    refine wpAnyH_take (i := 0) (v := ?_) rfl (by kernel_rfl) (by kernel_rfl) (by kernel_rfl) (fun _ _ _ h => h) (Or.inl ⟨by kernel_rfl, by (intro wz hSz; go_simp; try with_reducible rfl)⟩) hS0 ?_
                    go_simp
                    refine wpAnyH_take (i := 3) (v := ?_) rfl (by kernel_rfl) (by kernel_rfl) (by kernel_rfl) (fun _ _ _ h => h) (Or.inl ⟨by kernel_rfl, by (intro wz hSz; go_simp; try with_reducible rfl)⟩) hS0 ?_
                    go_simp
                    refine wpAnyH_take (i := 4) (v := ?_) rfl (by kernel_rfl) (by kernel_rfl) (by kernel_rfl) (fun _ _ _ h => h) (Or.inl ⟨by kernel_rfl, by (intro wz hSz; obtain ⟨-, hcz, -⟩ := (HX.out _ hSz).1; go_simp; try with_reducible rfl)⟩) hS0 ?_
                    go_simp
                    refine wpAnyH_take (i := 5) (v := ?_) rfl (by kernel_rfl) (by kernel_rfl) (by kernel_rfl) (fun _ _ _ h => h) (Or.inl ⟨by kernel_rfl, by (intro wz hSz; go_simp; try with_reducible rfl)⟩) hS0 ?_
                    go_simp
                    refine wpAnyH_ready (rs := [1]) (by kernel_rfl) (by simp) ?_
                    refine AllReadyH.cons rfl (fun K hK => ?_) (AllReadyH.nil)
                    go_simp
                    go_wp2_with (go_at_call 19; refine (rbyte_any _ gr _ _ HA2.r).mono ?_; rintro e y1 ⟨rfl, hr, hA⟩; rw [HV.out] at hr ⊢; simp only []; rw [← HY.out])
                    have hS1 := hA.other _ _ _ _ hneq (by decide) hS0
                    have HA3 := Lib.hid (HA2.go hr hA)
                    clear hr hA HA2 hS0
                    refine hK.out _ _ hS1 (fun _ => ?_)
                    clear hK K
                    refine wpAnyH_take (i := 2) (v := ?_) rfl (by kernel_rfl) (by kernel_rfl) (by kernel_rfl) (fun _ _ _ h => h) (Or.inl ⟨by kernel_rfl, by (intro wz hSz; go_simp; try with_reducible rfl)⟩) hS1 ?_
                    go_simp
                    refine wpAnyH_take (i := 6) (v := ?_) rfl (by kernel_rfl) (by kernel_rfl) (by kernel_rfl) (fun _ _ _ h => h) (Or.inl ⟨by kernel_rfl, by (intro wz hSz; go_simp; try with_reducible rfl)⟩) hS1 ?_
                    go_simp
                    refine wpAnyH_take (i := 7) (v := ?_) rfl (by kernel_rfl) (by kernel_rfl) (by kernel_rfl) (fun _ _ _ h => h) (Or.inl ⟨by kernel_rfl, by (intro wz hSz; go_simp; try with_reducible rfl)⟩) hS1 ?_
                    go_simp
                    refine wpAnyH_done (by kernel_rfl) ?_ _
                    have HAN := Lib.hid (show Ans w.heap.size q gr B len1 M (encsFrom M len1 (len1 - (k + 1)), 0) w _ from by have h := HA3.out; rw [HLl.out] at h; exact h)
                    go_wp2_with (go_at_call 30; refine (err_any _ gr _ _ HA3.out.r).mono ?_; rintro e y9 ⟨rfl, rfl⟩)
                    go_roundw
                    case rel => exact ⟨k + 1, by omega, by go_num, HAN⟩
                    case measure => simp [intOf]; omega
                  · have HE : enc x = bytesOf (u64 x.n) 2 := by unfold enc; simp [← hkd2, hk]
                    rw [HE] at HA1
                    subst hk
                    rw [← hnn] at HA1
                    obtain ⟨y, hy⟩ : ∃ y : Int, y = ((u64 nn % 256 ^ 2 : Nat) : Int) := ⟨_, rfl⟩
                    have hyb : 0 ≤ y ∧ y ≤ 65535 := by rw [hy]; omega
                    obtain ⟨cc, hcc⟩ : ∃ cc, IntKind.u16.wrap nn = cc := ⟨_, rfl⟩
                    have hcy : IntKind.u16.wrap y = cc := by
                      have hu := u64_cast nn
                      rw [← hcc, show IntKind.u16.wrap y = y % 65536 by simp [IntKind.wrap, IntKind.bits, IntKind.signed], show IntKind.u16.wrap nn = nn % 65536 by simp [IntKind.wrap, IntKind.bits, IntKind.signed], hy]
                      omega
                    have HV := Lib.hid (show numS (bytesOf (u64 nn) 2 ++ l, 0) 2 = ((u64 nn % 256 ^ 2), (l, 0)) from num_app _ _ _)
                    have HY := Lib.hid hy
                    clear hy
                    clear HE hkd hkd2 hnn hz0 hz1 hz2
                    go_wp2_with (first | (with_reducible refine wpList_load_mid rfl 33 (.tmp 71) rfl q (k * 39) rfl cs _ HRA.out Try.underlying33 rfl HSZ.out ?_) | (with_reducible refine wpList_store_new rfl 33 (.tmp 10) (.tmp 72) rfl wr Z39 cs.toArray wr.heap.size rfl rfl rfl HSZ2.out HZZ.out HAL.out ?_; rw [← hwq]; clear hwq))
                    have HA2 := HA1.out.on ((Below.refl _ _).drew)
                    refine wp_region_held_drew (S := fun y => y.heap[wr.heap.size]? = some (.cells cs.toArray 33)) (by kernel_rfl) HQ.out (fun hS0 => ?_)
                    refine wpAnyH_take (i := 0) (v := ?_) rfl (by kernel_rfl) (by kernel_rfl) (by kernel_rfl) (fun _ _ _ h => h) (Or.inl ⟨by kernel_rfl, by (intro wz hSz; go_simp; try with_reducible rfl)⟩) hS0 ?_
                    go_simp
                    refine wpAnyH_take (i := 3) (v := ?_) rfl (by kernel_rfl) (by kernel_rfl) (by kernel_rfl) (fun _ _ _ h => h) (Or.inl ⟨by kernel_rfl, by (intro wz hSz; go_simp; try with_reducible rfl)⟩) hS0 ?_
                    go_simp
                    refine wpAnyH_take (i := 4) (v := ?_) rfl (by kernel_rfl) (by kernel_rfl) (by kernel_rfl) (fun _ _ _ h => h) (Or.inl ⟨by kernel_rfl, by (intro wz hSz; obtain ⟨-, hcz, -⟩ := (HX.out _ hSz).1; go_simp; try with_reducible rfl)⟩) hS0 ?_
                    go_simp
                    refine wpAnyH_take (i := 5) (v := ?_) rfl (by kernel_rfl) (by kernel_rfl) (by kernel_rfl) (fun _ _ _ h => h) (Or.inl ⟨by kernel_rfl, by (intro wz hSz; go_simp; try with_reducible rfl)⟩) hS0 ?_
                    go_simp
                    refine wpAnyH_ready (rs := [1]) (by kernel_rfl) (by simp) ?_
                    refine AllReadyH.cons rfl (fun K hK => ?_) (AllReadyH.nil)
                    go_simp
                    go_wp2_with (go_at_call 20; refine (rhalf_any _ gr _ _ HA2.r).mono ?_; rintro e y1 ⟨rfl, hr, hA⟩; rw [HV.out] at hr ⊢; simp only []; rw [← HY.out])
                    have hS1 := hA.other _ _ _ _ hneq (by decide) hS0
                    have HA3 := Lib.hid (HA2.go hr hA)
                    clear hr hA HA2 hS0
                    refine hK.out _ _ hS1 (fun _ => ?_)
                    clear hK K
                    refine wpAnyH_take (i := 2) (v := ?_) rfl (by kernel_rfl) (by kernel_rfl) (by kernel_rfl) (fun _ _ _ h => h) (Or.inl ⟨by kernel_rfl, by (intro wz hSz; go_simp; try with_reducible rfl)⟩) hS1 ?_
                    go_simp
                    refine wpAnyH_take (i := 6) (v := ?_) rfl (by kernel_rfl) (by kernel_rfl) (by kernel_rfl) (fun _ _ _ h => h) (Or.inl ⟨by kernel_rfl, by (intro wz hSz; go_simp; try with_reducible rfl)⟩) hS1 ?_
                    go_simp
                    refine wpAnyH_take (i := 7) (v := ?_) rfl (by kernel_rfl) (by kernel_rfl) (by kernel_rfl) (fun _ _ _ h => h) (Or.inl ⟨by kernel_rfl, by (intro wz hSz; go_simp; try with_reducible rfl)⟩) hS1 ?_
                    go_simp
                    refine wpAnyH_done (by kernel_rfl) ?_ _
                    have HAN := Lib.hid (show Ans w.heap.size q gr B len1 M (encsFrom M len1 (len1 - (k + 1)), 0) w _ from by have h := HA3.out; rw [HLl.out] at h; exact h)
                    go_wp2_with (go_at_call 30; refine (err_any _ gr _ _ HA3.out.r).mono ?_; rintro e y9 ⟨rfl, rfl⟩)
                    go_roundw
                    case rel => exact ⟨k + 1, by omega, by go_num, HAN⟩
                    case measure => simp [intOf]; omega
                  · have HE : enc x = bytesOf (u64 x.n) 4 := by unfold enc; simp [← hkd2, hk]
                    rw [HE] at HA1
                    subst hk
                    rw [← hnn] at HA1
                    obtain ⟨y, hy⟩ : ∃ y : Int, y = ((u64 nn % 256 ^ 4 : Nat) : Int) := ⟨_, rfl⟩
                    have hyb : 0 ≤ y ∧ y ≤ 4294967295 := by rw [hy]; omega
                    obtain ⟨cc, hcc⟩ : ∃ cc, IntKind.u32.wrap nn = cc := ⟨_, rfl⟩
                    have hcy : IntKind.u32.wrap y = cc := by
                      have hu := u64_cast nn
                      rw [← hcc, show IntKind.u32.wrap y = y % 4294967296 by simp [IntKind.wrap, IntKind.bits, IntKind.signed], show IntKind.u32.wrap nn = nn % 4294967296 by simp [IntKind.wrap, IntKind.bits, IntKind.signed], hy]
                      omega
                    have HV := Lib.hid (show numS (bytesOf (u64 nn) 4 ++ l, 0) 4 = ((u64 nn % 256 ^ 4), (l, 0)) from num_app _ _ _)
                    have HY := Lib.hid hy
                    clear hy
                    clear HE hkd hkd2 hnn hz0 hz1 hz2
                    go_wp2_with (first | (with_reducible refine wpList_load_mid rfl 33 (.tmp 71) rfl q (k * 39) rfl cs _ HRA.out Try.underlying33 rfl HSZ.out ?_) | (with_reducible refine wpList_store_new rfl 33 (.tmp 10) (.tmp 72) rfl wr Z39 cs.toArray wr.heap.size rfl rfl rfl HSZ2.out HZZ.out HAL.out ?_; rw [← hwq]; clear hwq))
                    have HA2 := HA1.out.on ((Below.refl _ _).drew)
                    refine wp_region_held_drew (S := fun y => y.heap[wr.heap.size]? = some (.cells cs.toArray 33)) (by kernel_rfl) HQ.out (fun hS0 => ?_)
                    refine wpAnyH_take (i := 0) (v := ?_) rfl (by kernel_rfl) (by kernel_rfl) (by kernel_rfl) (fun _ _ _ h => h) (Or.inl ⟨by kernel_rfl, by (intro wz hSz; go_simp; try with_reducible rfl)⟩) hS0 ?_
                    go_simp
                    refine wpAnyH_take (i := 3) (v := ?_) rfl (by kernel_rfl) (by kernel_rfl) (by kernel_rfl) (fun _ _ _ h => h) (Or.inl ⟨by kernel_rfl, by (intro wz hSz; go_simp; try with_reducible rfl)⟩) hS0 ?_
                    go_simp
                    refine wpAnyH_take (i := 4) (v := ?_) rfl (by kernel_rfl) (by kernel_rfl) (by kernel_rfl) (fun _ _ _ h => h) (Or.inl ⟨by kernel_rfl, by (intro wz hSz; obtain ⟨-, hcz, -⟩ := (HX.out _ hSz).1; go_simp; try with_reducible rfl)⟩) hS0 ?_
                    go_simp
                    refine wpAnyH_take (i := 5) (v := ?_) rfl (by kernel_rfl) (by kernel_rfl) (by kernel_rfl) (fun _ _ _ h => h) (Or.inl ⟨by kernel_rfl, by (intro wz hSz; go_simp; try with_reducible rfl)⟩) hS0 ?_
                    go_simp
                    refine wpAnyH_ready (rs := [1]) (by kernel_rfl) (by simp) ?_
                    refine AllReadyH.cons rfl (fun K hK => ?_) (AllReadyH.nil)
                    go_simp
                    go_wp2_with (go_at_call 21; refine (rword_any _ gr _ _ HA2.r).mono ?_; rintro e y1 ⟨rfl, hr, hA⟩; rw [HV.out] at hr ⊢; simp only []; rw [← HY.out])
                    have hS1 := hA.other _ _ _ _ hneq (by decide) hS0
                    have HA3 := Lib.hid (HA2.go hr hA)
                    clear hr hA HA2 hS0
                    refine hK.out _ _ hS1 (fun _ => ?_)
                    clear hK K
                    refine wpAnyH_take (i := 2) (v := ?_) rfl (by kernel_rfl) (by kernel_rfl) (by kernel_rfl) (fun _ _ _ h => h) (Or.inl ⟨by kernel_rfl, by (intro wz hSz; go_simp; try with_reducible rfl)⟩) hS1 ?_
                    go_simp
                    refine wpAnyH_take (i := 6) (v := ?_) rfl (by kernel_rfl) (by kernel_rfl) (by kernel_rfl) (fun _ _ _ h => h) (Or.inl ⟨by kernel_rfl, by (intro wz hSz; go_simp; try with_reducible rfl)⟩) hS1 ?_
                    go_simp
                    refine wpAnyH_take (i := 7) (v := ?_) rfl (by kernel_rfl) (by kernel_rfl) (by kernel_rfl) (fun _ _ _ h => h) (Or.inl ⟨by kernel_rfl, by (intro wz hSz; go_simp; try with_reducible rfl)⟩) hS1 ?_
                    go_simp
                    refine wpAnyH_done (by kernel_rfl) ?_ _
                    have HAN := Lib.hid (show Ans w.heap.size q gr B len1 M (encsFrom M len1 (len1 - (k + 1)), 0) w _ from by have h := HA3.out; rw [HLl.out] at h; exact h)
                    go_wp2_with (go_at_call 30; refine (err_any _ gr _ _ HA3.out.r).mono ?_; rintro e y9 ⟨rfl, rfl⟩)
                    go_roundw
                    case rel => exact ⟨k + 1, by omega, by go_num, HAN⟩
                    case measure => simp [intOf]; omega
                  · have HE : enc x = bytesOf (u64 x.n) 8 := by unfold enc; simp [← hkd2, hk]
                    rw [HE] at HA1
                    subst hk
                    rw [← hnn] at HA1
                    obtain ⟨y, hy⟩ : ∃ y : Int, y = ((u64 nn % 256 ^ 8 : Nat) : Int) := ⟨_, rfl⟩
                    have hyb : 0 ≤ y ∧ y ≤ 18446744073709551615 := by rw [hy]; omega
                    have hcy : IntKind.u64.wrap nn = y := by
                      have hu := u64_cast nn
                      rw [IntKind.wrap_u64, hy]
                      omega
                    have HV := Lib.hid (show numS (bytesOf (u64 nn) 8 ++ l, 0) 8 = ((u64 nn % 256 ^ 8), (l, 0)) from num_app _ _ _)
                    have HY := Lib.hid hy
                    clear hy
                    clear HE hkd hkd2 hnn hz0 hz1 hz2
                    go_wp2_with (first | (with_reducible refine wpList_load_mid rfl 33 (.tmp 71) rfl q (k * 39) rfl cs _ HRA.out Try.underlying33 rfl HSZ.out ?_) | (with_reducible refine wpList_store_new rfl 33 (.tmp 10) (.tmp 72) rfl wr Z39 cs.toArray wr.heap.size rfl rfl rfl HSZ2.out HZZ.out HAL.out ?_; rw [← hwq]; clear hwq))
                    have HA2 := HA1.out.on ((Below.refl _ _).drew)
                    refine wp_region_held_drew (S := fun y => y.heap[wr.heap.size]? = some (.cells cs.toArray 33)) (by kernel_rfl) HQ.out (fun hS0 => ?_)
                    refine wpAnyH_take (i := 0) (v := ?_) rfl (by kernel_rfl) (by kernel_rfl) (by kernel_rfl) (fun _ _ _ h => h) (Or.inl ⟨by kernel_rfl, by (intro wz hSz; go_simp; try with_reducible rfl)⟩) hS0 ?_
                    go_simp
                    refine wpAnyH_take (i := 2) (v := ?_) rfl (by kernel_rfl) (by kernel_rfl) (by kernel_rfl) (fun _ _ _ h => h) (Or.inl ⟨by kernel_rfl, by (intro wz hSz; go_simp; try with_reducible rfl)⟩) hS0 ?_
                    go_simp
                    refine wpAnyH_take (i := 3) (v := ?_) rfl (by kernel_rfl) (by kernel_rfl) (by kernel_rfl) (fun _ _ _ h => h) (Or.inl ⟨by kernel_rfl, by (intro wz hSz; obtain ⟨-, hcz, -⟩ := (HX.out _ hSz).1; go_simp; try with_reducible rfl)⟩) hS0 ?_
                    go_simp
                    refine wpAnyH_take (i := 4) (v := ?_) rfl (by kernel_rfl) (by kernel_rfl) (by kernel_rfl) (fun _ _ _ h => h) (Or.inl ⟨by kernel_rfl, by (intro wz hSz; go_simp; try with_reducible rfl)⟩) hS0 ?_
                    go_simp
                    refine wpAnyH_ready (rs := [1]) (by kernel_rfl) (by simp) ?_
                    refine AllReadyH.cons rfl (fun K hK => ?_) (AllReadyH.nil)
                    go_simp
                    go_wp2_with (go_at_call 22; refine (rlong_any _ gr _ _ HA2.r).mono ?_; rintro e y1 ⟨rfl, hr, hA⟩; rw [HV.out] at hr ⊢; simp only []; rw [← HY.out])
                    have hS1 := hA.other _ _ _ _ hneq (by decide) hS0
                    have HA3 := Lib.hid (HA2.go hr hA)
                    clear hr hA HA2 hS0
                    refine hK.out _ _ hS1 (fun _ => ?_)
                    clear hK K
                    refine wpAnyH_take (i := 5) (v := ?_) rfl (by kernel_rfl) (by kernel_rfl) (by kernel_rfl) (fun _ _ _ h => h) (Or.inl ⟨by kernel_rfl, by (intro wz hSz; go_simp; try with_reducible rfl)⟩) hS1 ?_
                    go_simp
                    refine wpAnyH_take (i := 6) (v := ?_) rfl (by kernel_rfl) (by kernel_rfl) (by kernel_rfl) (fun _ _ _ h => h) (Or.inl ⟨by kernel_rfl, by (intro wz hSz; go_simp; try with_reducible rfl)⟩) hS1 ?_
                    go_simp
                    refine wpAnyH_done (by kernel_rfl) ?_ _
                    have HAN := Lib.hid (show Ans w.heap.size q gr B len1 M (encsFrom M len1 (len1 - (k + 1)), 0) w _ from by have h := HA3.out; rw [HLl.out] at h; exact h)
                    go_wp2_with (go_at_call 30; refine (err_any _ gr _ _ HA3.out.r).mono ?_; rintro e y9 ⟨rfl, rfl⟩)
                    go_roundw
                    case rel => exact ⟨k + 1, by omega, by go_num, HAN⟩
                    case measure => simp [intOf]; omega
                  · have HE : enc x = bytesOf (u64 x.n) 5 := by unfold enc; simp [← hkd2, hk]
                    rw [HE] at HA1
                    subst hk
                    rw [← hnn] at HA1
                    have HV := Lib.hid (fix_app nn l hsn)
                    clear HE hkd hkd2 hnn hz0 hz1 hz2
                    go_wp2_with (first | (with_reducible refine wpList_load_mid rfl 33 (.tmp 71) rfl q (k * 39) rfl cs _ HRA.out Try.underlying33 rfl HSZ.out ?_) | (with_reducible refine wpList_store_new rfl 33 (.tmp 10) (.tmp 72) rfl wr Z39 cs.toArray wr.heap.size rfl rfl rfl HSZ2.out HZZ.out HAL.out ?_; rw [← hwq]; clear hwq))
                    have HA2 := HA1.out.on ((Below.refl _ _).drew)
                    refine wp_region_held_drew (S := fun y => y.heap[wr.heap.size]? = some (.cells cs.toArray 33)) (by kernel_rfl) HQ.out (fun hS0 => ?_)
                    refine wpAnyH_take (i := 0) (v := ?_) rfl (by kernel_rfl) (by kernel_rfl) (by kernel_rfl) (fun _ _ _ h => h) (Or.inl ⟨by kernel_rfl, by (intro wz hSz; go_simp; try with_reducible rfl)⟩) hS0 ?_
                    go_simp
                    refine wpAnyH_take (i := 2) (v := ?_) rfl (by kernel_rfl) (by kernel_rfl) (by kernel_rfl) (fun _ _ _ h => h) (Or.inl ⟨by kernel_rfl, by (intro wz hSz; go_simp; try with_reducible rfl)⟩) hS0 ?_
                    go_simp
                    refine wpAnyH_take (i := 3) (v := ?_) rfl (by kernel_rfl) (by kernel_rfl) (by kernel_rfl) (fun _ _ _ h => h) (Or.inl ⟨by kernel_rfl, by (intro wz hSz; obtain ⟨-, hcz, -⟩ := (HX.out _ hSz).1; go_simp; try with_reducible rfl)⟩) hS0 ?_
                    go_simp
                    refine wpAnyH_ready (rs := [1]) (by kernel_rfl) (by simp) ?_
                    refine AllReadyH.cons rfl (fun K hK => ?_) (AllReadyH.nil)
                    go_simp
                    go_wp2_with (go_at_call 23; refine (rfix_any _ gr _ _ HA2.r).mono ?_; rintro e y1 ⟨rfl, hr, hA⟩; rw [HV.out] at hr ⊢; simp only [])
                    have hS1 := hA.other _ _ _ _ hneq (by decide) hS0
                    have HA3 := Lib.hid (HA2.go hr hA)
                    clear hr hA HA2 hS0
                    refine hK.out _ _ hS1 (fun _ => ?_)
                    clear hK K
                    refine wpAnyH_take (i := 4) (v := ?_) rfl (by kernel_rfl) (by kernel_rfl) (by kernel_rfl) (fun _ _ _ h => h) (Or.inl ⟨by kernel_rfl, by (intro wz hSz; go_simp; try with_reducible rfl)⟩) hS1 ?_
                    go_simp
                    refine wpAnyH_take (i := 5) (v := ?_) rfl (by kernel_rfl) (by kernel_rfl) (by kernel_rfl) (fun _ _ _ h => h) (Or.inl ⟨by kernel_rfl, by (intro wz hSz; go_simp; try with_reducible rfl)⟩) hS1 ?_
                    go_simp
                    refine wpAnyH_done (by kernel_rfl) ?_ _
                    have HAN := Lib.hid (show Ans w.heap.size q gr B len1 M (encsFrom M len1 (len1 - (k + 1)), 0) w _ from by have h := HA3.out; rw [HLl.out] at h; exact h)
                    go_wp2_with (go_at_call 30; refine (err_any _ gr _ _ HA3.out.r).mono ?_; rintro e y9 ⟨rfl, rfl⟩)
                    go_roundw
                    case rel => exact ⟨k + 1, by omega, by go_num, HAN⟩
                    case measure => simp [intOf]; omega
                  · have HE : enc x = numsOf 5 [x.v0, x.v1, x.v2] := by unfold enc; simp [← hkd2, hk]
                    rw [HE] at HA1
                    subst hk
                    rw [← hz0, ← hz1, ← hz2] at HA1
                    have HV := Lib.hid (three_app z0 z1 z2 l hs0 hs1 hs2)
                    have heq := eq_v3 z0 z1 z2
                    clear HE hkd hkd2 hnn hz0 hz1 hz2
                    go_wp2_with (first | (with_reducible refine wpList_load_mid rfl 33 (.tmp 71) rfl q (k * 39) rfl cs _ HRA.out Try.underlying33 rfl HSZ.out ?_) | (with_reducible refine wpList_store_new rfl 33 (.tmp 10) (.tmp 72) rfl wr Z39 cs.toArray wr.heap.size rfl rfl rfl HSZ2.out HZZ.out HAL.out ?_; rw [← hwq]; clear hwq))
                    have HA2 := HA1.out.on ((Below.refl _ _).drew)
                    refine wp_region_held_drew (S := fun y => y.heap[wr.heap.size]? = some (.cells cs.toArray 33)) (by kernel_rfl) HQ.out (fun hS0 => ?_)
                    refine wpAnyH_take (i := 0) (v := ?_) rfl (by kernel_rfl) (by kernel_rfl) (by kernel_rfl) (fun _ _ _ h => h) (Or.inl ⟨by kernel_rfl, by (intro wz hSz; go_simp; try with_reducible rfl)⟩) hS0 ?_
                    go_simp
                    refine wpAnyH_take (i := 3) (v := ?_) rfl (by kernel_rfl) (by kernel_rfl) (by kernel_rfl) (fun _ _ _ h => h) (Or.inl ⟨by kernel_rfl, by (intro wz hSz; go_simp; try with_reducible rfl)⟩) hS0 ?_
                    go_simp
                    refine wpAnyH_take (i := 4) (v := ?_) rfl (by kernel_rfl) (by kernel_rfl) (by kernel_rfl) (fun _ _ _ h => h) (Or.inl ⟨by kernel_rfl, by (intro wz hSz; obtain ⟨-, -, hcz2, hcz3, hcz4, -⟩ := (HX.out _ hSz).1; go_simp; try with_reducible rfl)⟩) hS0 ?_
                    go_simp
                    refine wpAnyH_ready (rs := [1]) (by kernel_rfl) (by simp) ?_
                    refine AllReadyH.cons rfl (fun K hK => ?_) (AllReadyH.nil)
                    go_simp
                    go_wp2_with (go_at_call 25; refine (rvec_any _ gr _ _ HA2.r HA2.gl HA2.bl).mono ?_; rintro e y1 ⟨rfl, hr, hA⟩; rw [HV.out.1, HV.out.2.1, HV.out.2.2.1]; rw [HV.out.2.2.2] at hr)
                    have hS1 := hA.other _ _ _ _ hneq (by decide) hS0
                    have HA3 := Lib.hid (HA2.go hr hA)
                    clear hr hA HA2 hS0
                    refine hK.out _ _ hS1 (fun _ => ?_)
                    clear hK K
                    refine wpAnyH_ready (rs := [2]) (by kernel_rfl) (by simp) ?_
                    refine AllReadyH.cons rfl (fun K hK => ?_) (AllReadyH.nil)
                    go_simp
                    go_wp2_with (go_at_call 24; refine (from_any z0 z1 z2 _).mono ?_; rintro e y2 ⟨rfl, hb2⟩)
                    have hS2 := (hb2.block wr.heap.size (lt_of_heap hS1)).trans hS1
                    have HA4 := Lib.hid (HA3.out.on hb2)
                    clear hb2
                    refine hK.out _ _ hS2 (fun _ => ?_)
                    clear hK K
                    refine wpAnyH_take (i := 5) (v := ?_) rfl (by kernel_rfl) (by kernel_rfl) (by kernel_rfl) (fun _ _ _ h => h) (Or.inl ⟨by kernel_rfl, by (intro wz hSz; go_simp; try with_reducible rfl)⟩) hS2 ?_
                    go_simp
                    refine wpAnyH_take (i := 6) (v := ?_) rfl (by kernel_rfl) (by kernel_rfl) (by kernel_rfl) (fun _ _ _ h => h) (Or.inl ⟨by kernel_rfl, by (intro wz hSz; go_simp; try with_reducible rfl)⟩) hS2 ?_
                    go_simp
                    refine wpAnyH_done (by kernel_rfl) ?_ _
                    have HAN := Lib.hid (show Ans w.heap.size q gr B len1 M (encsFrom M len1 (len1 - (k + 1)), 0) w _ from by have h := HA4.out; rw [HLl.out] at h; exact h)
                    go_wp2_with (go_at_call 30; refine (err_any _ gr _ _ HA4.out.r).mono ?_; rintro e y9 ⟨rfl, rfl⟩)
                    go_roundw
                    case rel => exact ⟨k + 1, by omega, by go_num, HAN⟩
                    case measure => simp [intOf]; omega
                  · have HE : enc x = numsOf 5 [x.v0, x.v1, x.v2] := by unfold enc; simp [← hkd2, hk]
                    rw [HE] at HA1
                    subst hk
                    rw [← hz0, ← hz1, ← hz2] at HA1
                    have HV := Lib.hid (three_app z0 z1 z2 l hs0 hs1 hs2)
                    have heq := eq_h3 z0 z1 z2
                    clear HE hkd hkd2 hnn hz0 hz1 hz2
                    go_wp2_with (first | (with_reducible refine wpList_load_mid rfl 33 (.tmp 71) rfl q (k * 39) rfl cs _ HRA.out Try.underlying33 rfl HSZ.out ?_) | (with_reducible refine wpList_store_new rfl 33 (.tmp 10) (.tmp 72) rfl wr Z39 cs.toArray wr.heap.size rfl rfl rfl HSZ2.out HZZ.out HAL.out ?_; rw [← hwq]; clear hwq))
                    have HA2 := HA1.out.on ((Below.refl _ _).drew)
                    refine wp_region_held_drew (S := fun y => y.heap[wr.heap.size]? = some (.cells cs.toArray 33)) (by kernel_rfl) HQ.out (fun hS0 => ?_)
                    refine wpAnyH_take (i := 0) (v := ?_) rfl (by kernel_rfl) (by kernel_rfl) (by kernel_rfl) (fun _ _ _ h => h) (Or.inl ⟨by kernel_rfl, by (intro wz hSz; go_simp; try with_reducible rfl)⟩) hS0 ?_
                    go_simp
                    refine wpAnyH_take (i := 3) (v := ?_) rfl (by kernel_rfl) (by kernel_rfl) (by kernel_rfl) (fun _ _ _ h => h) (Or.inl ⟨by kernel_rfl, by (intro wz hSz; go_simp; try with_reducible rfl)⟩) hS0 ?_
                    go_simp
                    refine wpAnyH_take (i := 4) (v := ?_) rfl (by kernel_rfl) (by kernel_rfl) (by kernel_rfl) (fun _ _ _ h => h) (Or.inl ⟨by kernel_rfl, by (intro wz hSz; obtain ⟨-, -, hcz2, hcz3, hcz4, -⟩ := (HX.out _ hSz).1; go_simp; try with_reducible rfl)⟩) hS0 ?_
                    go_simp
                    refine wpAnyH_ready (rs := [1]) (by kernel_rfl) (by simp) ?_
                    refine AllReadyH.cons rfl (fun K hK => ?_) (AllReadyH.nil)
                    go_simp
                    go_wp2_with (go_at_call 27; refine (rhue_any _ gr _ _ HA2.r HA2.gl HA2.bl).mono ?_; rintro e y1 ⟨rfl, hr, hA⟩; rw [HV.out.1, HV.out.2.1, HV.out.2.2.1]; rw [HV.out.2.2.2] at hr)
                    have hS1 := hA.other _ _ _ _ hneq (by decide) hS0
                    have HA3 := Lib.hid (HA2.go hr hA)
                    clear hr hA HA2 hS0
                    refine hK.out _ _ hS1 (fun _ => ?_)
                    clear hK K
                    refine wpAnyH_ready (rs := [2]) (by kernel_rfl) (by simp) ?_
                    refine AllReadyH.cons rfl (fun K hK => ?_) (AllReadyH.nil)
                    go_simp
                    go_wp2_with (go_at_call 26; refine (from5_any z0 z1 z2 _).mono ?_; rintro e y2 ⟨rfl, hb2⟩)
                    have hS2 := (hb2.block wr.heap.size (lt_of_heap hS1)).trans hS1
                    have HA4 := Lib.hid (HA3.out.on hb2)
                    clear hb2
                    refine hK.out _ _ hS2 (fun _ => ?_)
                    clear hK K
                    refine wpAnyH_take (i := 5) (v := ?_) rfl (by kernel_rfl) (by kernel_rfl) (by kernel_rfl) (fun _ _ _ h => h) (Or.inl ⟨by kernel_rfl, by (intro wz hSz; go_simp; try with_reducible rfl)⟩) hS2 ?_
                    go_simp
                    refine wpAnyH_take (i := 6) (v := ?_) rfl (by kernel_rfl) (by kernel_rfl) (by kernel_rfl) (fun _ _ _ h => h) (Or.inl ⟨by kernel_rfl, by (intro wz hSz; go_simp; try with_reducible rfl)⟩) hS2 ?_
                    go_simp
                    refine wpAnyH_done (by kernel_rfl) ?_ _
                    have HAN := Lib.hid (show Ans w.heap.size q gr B len1 M (encsFrom M len1 (len1 - (k + 1)), 0) w _ from by have h := HA4.out; rw [HLl.out] at h; exact h)
                    go_wp2_with (go_at_call 30; refine (err_any _ gr _ _ HA4.out.r).mono ?_; rintro e y9 ⟨rfl, rfl⟩)
                    go_roundw
                    case rel => exact ⟨k + 1, by omega, by go_num, HAN⟩
                    case measure => simp [intOf]; omega
                  · have HE : enc x = x.d := by unfold enc; simp [← hkd2, hk]
                    rw [HE] at HA1
                    subst hk
                    have HV := Lib.hid (sum_app x.d l hd32)
                    have heq := eq_sum (x.d ++ l, 0)
                    rw [HV.out] at heq
                    have HRG := Lib.hid (fun (y : World) (hb : y.heap[wr.heap.size]? = some (.cells cs.toArray 33)) => (HX.out y hb).2)
                    have HSD := Lib.hid (show (Try.prog.info? 31).map (·.size) = some (vals x.d).length by rw [vals_length, hd32]; kernel_rfl)
                    obtain ⟨dl, hdl⟩ : ∃ dl, dl = vals x.d := ⟨_, rfl⟩
                    simp only [] at heq
                    rw [← hdl] at heq HRG HSD
                    have HDL := Lib.hid hdl
                    clear hdl
                    clear HE hkd hkd2 hnn hz0 hz1 hz2
                    go_wp2_with (first | (with_reducible refine wpList_load_mid rfl 33 (.tmp 71) rfl q (k * 39) rfl cs _ HRA.out Try.underlying33 rfl HSZ.out ?_) | (with_reducible refine wpList_store_new rfl 33 (.tmp 10) (.tmp 72) rfl wr Z39 cs.toArray wr.heap.size rfl rfl rfl HSZ2.out HZZ.out HAL.out ?_; rw [← hwq]; clear hwq))
                    have HA2 := HA1.out.on ((Below.refl _ _).drew)
                    refine wp_region_held_drew (S := fun y => y.heap[wr.heap.size]? = some (.cells cs.toArray 33)) (by kernel_rfl) HQ.out (fun hS0 => ?_)
                    refine wpAnyH_take (i := 0) (v := ?_) rfl (by kernel_rfl) (by kernel_rfl) (by kernel_rfl) (fun _ _ _ h => h) (Or.inl ⟨by kernel_rfl, by (intro wz hSz; go_simp; try with_reducible rfl)⟩) hS0 ?_
                    go_simp
                    refine wpAnyH_take (i := 2) (v := ?_) rfl (by kernel_rfl) (by kernel_rfl) (by kernel_rfl) (fun _ _ _ h => h) (Or.inl ⟨by kernel_rfl, by (intro wz hSz; go_simp; try with_reducible rfl)⟩) hS0 ?_
                    go_simp
                    refine wpAnyH_take (i := 3) (v := .agg dl.toArray) rfl (by kernel_rfl) (by kernel_rfl) (by kernel_rfl) (fun _ _ _ h => h) (yieldsIf_load_mid (by kernel_rfl) 31 (.tmp 137) rfl wr.heap.size 5 rfl dl _ HRG.out Try.underlying31 rfl HSD.out) hS0 ?_
                    go_simp
                    refine wpAnyH_ready (rs := [1]) (by kernel_rfl) (by simp) ?_
                    refine AllReadyH.cons rfl (fun K hK => ?_) (AllReadyH.nil)
                    go_simp
                    go_wp2_with (go_at_call 28; refine (rsum_any _ gr _ _ HA2.r HA2.gl HA2.bl).mono ?_; rintro e y1 ⟨rfl, hr, hA⟩; rw [HV.out] at hr ⊢; simp only []; rw [← HDL.out])
                    have hS1 := hA.other _ _ _ _ hneq (by decide) hS0
                    have HA3 := Lib.hid (HA2.go hr hA)
                    clear hr hA HA2 hS0
                    refine hK.out _ _ hS1 (fun _ => ?_)
                    clear hK K
                    refine wpAnyH_take (i := 4) (v := ?_) rfl (by kernel_rfl) (by kernel_rfl) (by kernel_rfl) (fun _ _ _ h => h) (Or.inl ⟨by kernel_rfl, by (intro wz hSz; go_simp; try with_reducible rfl)⟩) hS1 ?_
                    go_simp
                    refine wpAnyH_take (i := 5) (v := ?_) rfl (by kernel_rfl) (by kernel_rfl) (by kernel_rfl) (fun _ _ _ h => h) (Or.inl ⟨by kernel_rfl, by (intro wz hSz; go_simp; try with_reducible rfl)⟩) hS1 ?_
                    go_simp
                    refine wpAnyH_done (by kernel_rfl) ?_ _
                    have HAN := Lib.hid (show Ans w.heap.size q gr B len1 M (encsFrom M len1 (len1 - (k + 1)), 0) w _ from by have h := HA3.out; rw [HLl.out] at h; exact h)
                    go_wp2_with (go_at_call 30; refine (err_any _ gr _ _ HA3.out.r).mono ?_; rintro e y9 ⟨rfl, rfl⟩)
                    go_roundw
                    case rel => exact ⟨k + 1, by omega, by go_num, HAN⟩
                    case measure => simp [intOf]; omega
                  · have HE : enc x = bytesOf x.p.length 4 ++ x.p := by unfold enc; simp [← hkd2, hk]
                    rw [HE] at HA1
                    subst hk
                    have HV := Lib.hid (blob_app x.p l hp)
                    clear HE hkd hkd2 hnn hz0 hz1 hz2
                    go_wp2_with (first | (with_reducible refine wpList_load_mid rfl 33 (.tmp 71) rfl q (k * 39) rfl cs _ HRA.out Try.underlying33 rfl HSZ.out ?_) | (with_reducible refine wpList_store_new rfl 33 (.tmp 10) (.tmp 72) rfl wr Z39 cs.toArray wr.heap.size rfl rfl rfl HSZ2.out HZZ.out HAL.out ?_; rw [← hwq]; clear hwq))
                    have HA2 := HA1.out.on ((Below.refl _ _).drew)
                    refine wp_region_held_drew (S := fun y => y.heap[wr.heap.size]? = some (.cells cs.toArray 33) ∧ Bs y (.slice x.a x.plen x.pcap) x.p) (by kernel_rfl) ⟨HQ.out, HBS.out.on ((Below.refl _ _).drew)⟩ (fun hS0 => ?_)
                    refine wpAnyH_take (i := 0) (v := ?_) rfl (by kernel_rfl) (by kernel_rfl) (by kernel_rfl) (fun _ _ _ h => h) (Or.inl ⟨by kernel_rfl, by (intro wz hSz; go_simp; try with_reducible rfl)⟩) hS0 ?_
                    go_simp
                    refine wpAnyH_take (i := 3) (v := ?_) rfl (by kernel_rfl) (by kernel_rfl) (by kernel_rfl) (fun _ _ _ h => h) (Or.inl ⟨by kernel_rfl, by (intro wz hSz; go_simp; try with_reducible rfl)⟩) hS0 ?_
                    go_simp
                    refine wpAnyH_take (i := 4) (v := ?_) rfl (by kernel_rfl) (by kernel_rfl) (by kernel_rfl) (fun _ _ _ h => h) (Or.inl ⟨by kernel_rfl, by (intro wz hSz; obtain ⟨-, -, -, -, -, hcz, -⟩ := (HX.out _ hSz.1).1; go_simp; try with_reducible rfl)⟩) hS0 ?_
                    go_simp
                    refine wpAnyH_take (i := 5) (v := ?_) rfl (by kernel_rfl) (by kernel_rfl) (by kernel_rfl) (fun _ _ _ h => h) (Or.inl ⟨by kernel_rfl, by (intro wz hSz; have hcz := conv_bs hSz.2; go_simp; try with_reducible rfl)⟩) hS0 ?_
                    go_simp
                    refine wpAnyH_ready (rs := [1]) (by kernel_rfl) (by simp) ?_
                    refine AllReadyH.cons rfl (fun K hK => ?_) (AllReadyH.nil)
                    go_simp
                    go_wp2_with (go_at_call 29; refine (rblob_any _ gr _ 3000 (by omega) _ HA2.r).mono ?_; rintro e y1 ⟨⟨a1, n1, c1, rfl, ho1⟩, hr, hA⟩; rw [HV.out] at ho1 hr; have hc1 := conv_bs (own_bs ho1))
                    have hS1 : (fun y => y.heap[wr.heap.size]? = some (.cells cs.toArray 33) ∧ Bs y (.slice x.a x.plen x.pcap) x.p) y1 := ⟨hA.other _ _ _ _ hneq (by decide) hS0.1, HFB.out y1 (HA2.go hr hA).b⟩
                    have HA3 := Lib.hid (HA2.go hr hA)
                    clear hr hA HA2 hS0
                    refine hK.out _ _ hS1 (fun _ => ?_)
                    clear hK K
                    refine wpAnyH_ready (rs := [2]) (by kernel_rfl) (by simp) ?_
                    refine AllReadyH.cons rfl (fun K hK => ?_) (AllReadyH.nil)
                    go_simp
                    refine hK.out _ _ hS1 (fun _ => ?_)
                    clear hK K
                    refine wpAnyH_take (i := 6) (v := ?_) rfl (by kernel_rfl) (by kernel_rfl) (by kernel_rfl) (fun _ _ _ h => h) (Or.inl ⟨by kernel_rfl, by (intro wz hSz; go_simp; try with_reducible rfl)⟩) hS1 ?_
                    go_simp
                    refine wpAnyH_take (i := 7) (v := ?_) rfl (by kernel_rfl) (by kernel_rfl) (by kernel_rfl) (fun _ _ _ h => h) (Or.inl ⟨by kernel_rfl, by (intro wz hSz; go_simp; try with_reducible rfl)⟩) hS1 ?_
                    go_simp
                    refine wpAnyH_done (by kernel_rfl) ?_ _
                    have HAN := Lib.hid (show Ans w.heap.size q gr B len1 M (encsFrom M len1 (len1 - (k + 1)), 0) w _ from by have h := HA3.out; rw [HLl.out] at h; exact h)
                    go_wp2_with (go_at_call 30; refine (err_any _ gr _ _ HA3.out.r).mono ?_; rintro e y9 ⟨rfl, rfl⟩)
                    go_roundw
                    case rel => exact ⟨k + 1, by omega, by go_num, HAN⟩
                    case measure => simp [intOf]; omega
              · have hnl : ¬ (k : Int) < len1 := by omega
                have HAe := Lib.hid (show Ans w.heap.size q gr B len1 M ([], 0) w wr from by have h := HA.out; rw [show len1 - k = 0 by omega] at h; exact h)
                clear HA
                go_wp2_with fail
                refine (awake_any _).mono ?_
                rintro e y1 ⟨rfl, hy1⟩
                have HA5 := Lib.hid (HAe.out.on hy1)
                clear hy1 HAe
                go_wp2_with fail
                refine (end_any _ gr _ _ HA5.out.r).mono ?_
                rintro e y2 ⟨rfl, hr, hA⟩
                rw [show endS (([] : List UInt8), (0 : Int)) = ([], 0) from rfl] at hr ⊢
                have HA6 := Lib.hid (HA5.out.go hr hA)
                clear hr hA HA5
                go_wp2
                go_ret
                exact ⟨rfl, HA6.out.b⟩

end Go.Proofs.Ytgabpmoibmhigaa.reelBackW
