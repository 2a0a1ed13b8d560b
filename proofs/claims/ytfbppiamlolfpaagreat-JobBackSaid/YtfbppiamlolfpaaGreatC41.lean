/- Jobs: Encode, by the program: the job of a scene, or why there is none. -/
import Derived.Test.YtfbppiamlolfpaaGreatC40
import Derived.Test.YtfbppiamlolfpaaGreatC37
import Derived.Deep.MidRow
import Derived.Test.YtfbppiamlolfpaaGreatC30
namespace Go.Proofs.YtfbppiamlolfpaaGreat.Jw
open Go.RowKit Go.Proofs.YtfbppiamlolfpaaGreat Go.Proofs.YtfbppiamlolfpaaGreat.Rp Go.Proofs.YtfbppiamlolfpaaGreat.Re Go.Proofs.YtfbppiamlolfpaaGreat.Au Go.Proofs.YtfbppiamlolfpaaGreat.Tk Go.Proofs.YtfbppiamlolfpaaGreat.Sc
set_option linter.unusedVariables false
set_option linter.unusedSimpArgs false

/-- the job of a scene -/
def encScn (s : Scn) : List UInt8 := sceneB s.w s.h s.sm s.dp s.fr s.sh s.sd s.r s.g s.b s.ey s.lk s.wd s.np s.nt s.nj s.ns s.P s.way s.kn s.K s.J s.S

theorem ok_np {s : Scn} (h : (chk s).1 = 0) : s.np ≤ 32 := (whereB_ok (ok_chk h 1 (by omega))).1

theorem ok_nt {s : Scn} (h : (chk s).1 = 0) : s.nt ≤ 32 := (whereB_ok (ok_chk h 2 (by omega))).1

theorem ok_nj {s : Scn} (h : (chk s).1 = 0) : s.nj ≤ 32 := (whereB_ok (ok_chk h 3 (by omega))).1

theorem ok_ns {s : Scn} (h : (chk s).1 = 0) : s.ns ≤ 128 := (whereB_ok (ok_chk h 4 (by omega))).1

theorem ok_kn {s : Scn} (h : (chk s).1 = 0) (i : Nat) (hi : i < s.nt) : s.kn i ≤ 16 := by
  have h2 := (whereB_ok (ok_chk h 2 (by omega))).2 i hi
  unfold tB rightB at h2
  simp at h2
  omega

theorem enc_length {s : Scn} (h : (chk s).1 = 0) : 4 ≤ (encScn s).length ∧ (encScn s).length ≤ 1000000 := by
  have h1 := ok_np h
  have h2 := ok_nt h
  have h3 := ok_nj h
  have h4 := ok_ns h
  have h5 := tracksOf_length s.way s.kn s.K s.nt (fun i hi => Nat.le_trans (ok_kn h i hi) (by omega)) s.nt (Nat.le_refl _)
  have h6 := shapesOf_length s.S s.ns
  unfold encScn sceneB
  simp only [List.length_append, numsOf_length, bytesOf_length, mgL_length, paintsOf_length, jointsOf_length, List.length_cons, List.length_nil]
  constructor <;> omega

theorem trkAll {g B : Nat} {w1 w : World} {ta : Option Addr} {nt : Nat} {way : Nat → Int} {kn : Nat → Nat} {K : Nat → Nat → Int} (h : Tracks w1 ta nt way kn K) (hb : ∀ W, Aft g B w W → Below w1.heap.size w1 W) : TrkAll g B w ta nt way kn K := by
  rcases h.2 with h | ⟨b, off, e, hlt, h⟩
  · exact .inl h
  · refine .inr ⟨b, off, e, fun i hi => ?_⟩
    obtain ⟨ka, kc, q1, q2, q3⟩ := h i hi
    exact ⟨ka, kc, fun W hW => ⟨((hb W hW).cell (p := ⟨b, off + i * 2, none⟩) hlt).trans q1, ((hb W hW).cell (p := ⟨b, off + (i * 2 + 1), none⟩) hlt).trans q2, q3.on (hb W hW)⟩⟩

set_option maxHeartbeats 8000000 in
set_option maxRecDepth 100000 in
theorem jencode (s : Scn) (a : Pla) (w : World) (hs : ScAt w s a) :
    Calls Tryz.prog 8 #[SV s a] w fun e w' => ((¬ (chk s).1 = 0 ∧ e = .returned (.tuple #[.slice none 0 0, .int .i64 (chk s).1])) ∨ ((chk s).1 = 0 ∧ ∃ b n c, e = .returned (.tuple #[.slice b n c, .int .i64 0]) ∧ w'.ownsRow w.heap.size 5 1 (.slice b n c) (encScn s).length (vals (encScn s)))) ∧ Below w.heap.size w w' := by
  obtain ⟨c0, hc0⟩ : ∃ c0 : List Value, c0 = (SC s a).toList := ⟨_, rfl⟩
  have e0 : SV s a = .agg c0.toArray := by rw [hc0]
  have HE0 := Lib.hid e0
  have HB0 := Lib.hid (heap_alloc_last w (.cells c0.toArray 51))
  have HS0 := Lib.hid (hs.on (below_n1 w (.cells c0.toArray 51)))
  have HW0 := Lib.hid (below_n1 w (.cells c0.toArray 51))
  have HZA := Lib.hid (show (Tryz.prog.info? 51).map (·.size) = some c0.toArray.size by rw [hc0]; kernel_rfl)
  rw [e0]
  clear hs hc0 e0
  go_enter Tryz.func8, Tryz.ntmps8
  go_wp2_with (with_reducible refine wpList_load_row rfl 51 (.tmp 1) rfl w.heap.size rfl 51 c0.toArray (0, 0) _ HB0.out Tryz.underlying51 rfl HZA.out ?_)
  rw [← HE0.out]
  refine (check_any s a _ HS0.out).mono ?_
  rintro e w1 ⟨rfl, hb1⟩
  rw [HE0.out]
  have HB1 := Lib.hid ((hb1.block _ (lt_heap HB0.out)).trans HB0.out)
  have HS1 := Lib.hid (HS0.out.on hb1)
  have HW1 := Lib.hid (HW0.out.trans (hb1.mono HW0.out.size))
  obtain ⟨er, her⟩ : ∃ er, er = (chk s).1 := ⟨_, rfl⟩
  obtain ⟨ep, hep⟩ : ∃ ep, ep = (chk s).2 := ⟨_, rfl⟩
  rw [← her, ← hep]
  have HER := Lib.hid her
  clear her hep hb1 HB0 HS0 HW0
  by_cases h0 : er = 0
  · subst h0
    have HOK := Lib.hid HER.out.symm
    have hl0 := HW1.out.size
    have hlb := lt_heap HB1.out
    go_wp2_with fail
    refine (wnew _).mono ?_
    rintro e w2 ⟨rfl, hwp, hb2⟩
    have HB2 := Lib.hid ((hb2.block _ (lt_heap HB1.out)).trans HB1.out)
    have HW2 := Lib.hid (HW1.out.trans (hb2.mono hl0))
    have HP2 := Lib.hid hwp
    have HU2 := Lib.hid hb2
    obtain ⟨g, hg⟩ : ∃ g, g = w1.heap.size := ⟨_, rfl⟩
    have hg2 := hwp.size.2
    rw [← hg] at HP2 HU2 hg2 ⊢
    have HG := Lib.hid hg
    have hgw : w.heap.size < g := by omega
    clear hwp hb2 HB1 HW1 hg
    go_upto_region 5 with fail
    have hb3 := below_n1 w2 (.cells #[.pointer (some ⟨g, 0, none⟩)] 71)
    have hN := heap_alloc_last w2 (.cells #[.pointer (some ⟨g, 0, none⟩)] 71)
    obtain ⟨y3, hy3⟩ : ∃ y, w2.alloc (.cells #[.pointer (some ⟨g, 0, none⟩)] 71) = y := ⟨_, rfl⟩
    rw [hy3] at hb3 hN ⊢
    clear hy3
    have HB3 := Lib.hid ((hb3.block _ (lt_heap HB2.out)).trans HB2.out)
    have HP3 := Lib.hid (HP2.out.new hb3)
    have HU3 := Lib.hid (HU2.out.trans (hb3.mono (Nat.le_of_lt hg2)))
    have HW3 := Lib.hid (HW2.out.trans (hb3.mono HW2.out.size))
    have HN3 := Lib.hid hN
    have hl3 := lt_heap hN
    have hl2 := HU2.out.size
    have hc := cell_of_row _ _ 0 _ _ _ hN
    simp at hc
    clear hb3 hN HB2 HP2 HW2
    go_wp2_with (with_reducible refine wpList_load_row rfl 51 (.tmp 1) rfl w.heap.size rfl 51 c0.toArray (0, 0) _ HB3.out Tryz.underlying51 rfl HZA.out ?_)
    clear hc
    rw [← HE0.out]
    have HWW := Lib.hid (show ∀ W, Aft g g y3 W → Below w1.heap.size w1 W from fun W h => by rw [← HG.out]; exact HU3.out.trans (h.below (Nat.le_refl _) (Nat.le_refl _) (by omega)))
    refine (wscene g g [] s.w s.h s.sm s.dp s.fr s.sh s.sd s.r s.g s.b s.ey s.lk s.wd s.np s.nt s.nj s.ns s.P s.way s.kn s.K s.J s.S a.pa a.ta a.ja a.sa a.pc a.tc a.jc a.sc _ HP3.out (by simp) (by simp) HS1.out.sd (Nat.le_trans (ok_np HOK.out) (by omega)) (Nat.le_trans (ok_nt HOK.out) (by omega)) (Nat.le_trans (ok_nj HOK.out) (by omega)) (Nat.le_trans (ok_ns HOK.out) (by omega)) (fun i hi => Nat.le_trans (ok_kn HOK.out i hi) (by omega)) (fun W h => HS1.out.p.on (HWW.out W h)) (trkAll HS1.out.t HWW.out) (fun W h => HS1.out.j.on (HWW.out W h)) (fun W h => HS1.out.sh.on (HWW.out W h))).mono ?_
    rintro e w4 ⟨rfl, hp4, ha4⟩
    rw [HE0.out]
    rw [List.nil_append] at hp4
    have HP4 := Lib.hid (show WP g g (encScn s) w4 from hp4)
    have HW4 := Lib.hid (HW3.out.trans (ha4.below (B := w.heap.size) (by omega) (by omega) (by omega)))
    have hN4 := ha4.other _ _ _ _ (by omega) (by decide) HN3.out
    have hc := cell_of_row _ _ 0 _ _ _ hN4
    simp at hc
    clear hp4 ha4 hN4
    go_wp2_with fail
    clear hc
    have HLEN := enc_length HOK.out
    refine (wbytes_any g g _ _ HP4.out (by omega)).mono ?_
    rintro e w5 ⟨⟨b, n, c, rfl, how⟩, hb5⟩
    have HOW := Lib.hid how
    have HW5 := Lib.hid (HW4.out.trans (hb5.mono HW4.out.size))
    have hz4 := HW4.out.size
    clear how hb5
    go_wp2
    exact bodyPost_ret (v := .tuple #[.slice b n c, .int .i64 0]) (by simp [results, Tryz.results8, go_sem]) rfl ⟨.inr ⟨HOK.out, b, n, c, rfl, own_mono HOW.out hz4⟩, HW5.out⟩
  · have d1 : (er != 0) = true := by simp [h0]
    have d2 : (er == 0) = false := by simpa using h0
    have d3 := decide_eq_false h0
    go_wp2
    exact bodyPost_ret (v := .tuple #[.slice none 0 0, .int .i64 er]) (by simp [results, Tryz.results8, go_sem]) rfl ⟨.inl ⟨by rw [← HER.out]; exact h0, by rw [HER.out]⟩, HW1.out⟩

end Go.Proofs.YtfbppiamlolfpaaGreat.Jw

/- Jobs, plainly: what was laid of a scene that breaks no rule is read as it was. -/
namespace Go.Proofs.YtfbppiamlolfpaaGreat.Jb
open Go.RowKit Go.Proofs.YtfbppiamlolfpaaGreat Go.Proofs.YtfbppiamlolfpaaGreat.Rp Go.Proofs.YtfbppiamlolfpaaGreat.Re Go.Proofs.YtfbppiamlolfpaaGreat.Au Go.Proofs.YtfbppiamlolfpaaGreat.Sc Go.Proofs.YtfbppiamlolfpaaGreat.Tk
open Go.Proofs.YtfbppiamlolfpaaGreat.Jw (paintsOf tracksOf jointsOf shapesOf keysOf shpB mgL mgk encScn sceneB)
set_option linter.unusedVariables false
set_option linter.unusedSimpArgs false

theorem take_app (p l : List UInt8) (n : Nat) (h : p.length = n) : takeS (p ++ l, 0) n = (p, (l, 0)) := by
  subst h
  rw [takeS_ok (by simp)]
  simp

theorem num_app (m k : Nat) (l : List UInt8) : numS (bytesOf m k ++ l, 0) k = (m % 256 ^ k, (l, 0)) := by
  unfold numS; rw [take_app _ _ _ (bytesOf_length m k), numOf_bytesOf]

theorem sign_back (z : Int) (h : -2147483648 ≤ z ∧ z ≤ 2147483648) : sign40 (u64 z % 256 ^ 5) = z := by
  have e : (256 ^ 5 : Nat) = 1099511627776 := by decide
  rw [e]
  have hu := u64_cast z
  unfold sign40
  by_cases h0 : 0 ≤ z
  · have h1 : u64 z = z.toNat := by omega
    rw [h1, if_neg (by omega)]; omega
  · have h1 : (u64 z : Int) = z + 18446744073709551616 := by omega
    have h2 : u64 z % 1099511627776 = (z + 1099511627776).toNat := by omega
    rw [h2, if_pos (by omega)]; omega

theorem fix_app (z : Int) (h : -2147483648 ≤ z ∧ z ≤ 2147483648) (l : List UInt8) : fixS (bytesOf (u64 z) 5 ++ l, 0) = (z, (l, 0)) := by
  unfold fixS
  rw [num_app]
  simp only []
  rw [sign_back z h, if_neg (by omega)]

theorem three_app (x y z : Int) (hx : -2147483648 ≤ x ∧ x ≤ 2147483648) (hy : -2147483648 ≤ y ∧ y ≤ 2147483648) (hz : -2147483648 ≤ z ∧ z ≤ 2147483648) (l : List UInt8) :
    ∃ f, threeS (bytesOf (u64 x) 5 ++ (bytesOf (u64 y) 5 ++ (bytesOf (u64 z) 5 ++ l)), 0) = (f, (l, 0)) ∧ f 0 = x ∧ f 1 = y ∧ f 2 = z := by
  have k1 : fixK (bytesOf (u64 x) 5 ++ (bytesOf (u64 y) 5 ++ (bytesOf (u64 z) 5 ++ l)), 0) 1 = (bytesOf (u64 y) 5 ++ (bytesOf (u64 z) 5 ++ l), 0) := by show (fixS _).2 = _; rw [show fixK (bytesOf (u64 x) 5 ++ (bytesOf (u64 y) 5 ++ (bytesOf (u64 z) 5 ++ l)), 0) 0 = (bytesOf (u64 x) 5 ++ (bytesOf (u64 y) 5 ++ (bytesOf (u64 z) 5 ++ l)), 0) from rfl, fix_app x hx]
  have k2 : fixK (bytesOf (u64 x) 5 ++ (bytesOf (u64 y) 5 ++ (bytesOf (u64 z) 5 ++ l)), 0) 2 = (bytesOf (u64 z) 5 ++ l, 0) := by show (fixS (fixK _ 1)).2 = _; rw [k1, fix_app y hy]
  have k3 : fixK (bytesOf (u64 x) 5 ++ (bytesOf (u64 y) 5 ++ (bytesOf (u64 z) 5 ++ l)), 0) 3 = (l, 0) := by show (fixS (fixK _ 2)).2 = _; rw [k2, fix_app z hz]
  have v0 : fixV (bytesOf (u64 x) 5 ++ (bytesOf (u64 y) 5 ++ (bytesOf (u64 z) 5 ++ l)), 0) 0 = x := by show (fixS _).1 = _; rw [show fixK (bytesOf (u64 x) 5 ++ (bytesOf (u64 y) 5 ++ (bytesOf (u64 z) 5 ++ l)), 0) 0 = (bytesOf (u64 x) 5 ++ (bytesOf (u64 y) 5 ++ (bytesOf (u64 z) 5 ++ l)), 0) from rfl, fix_app x hx]
  have v1 : fixV (bytesOf (u64 x) 5 ++ (bytesOf (u64 y) 5 ++ (bytesOf (u64 z) 5 ++ l)), 0) 1 = y := by show (fixS (fixK _ 1)).1 = _; rw [k1, fix_app y hy]
  have v2 : fixV (bytesOf (u64 x) 5 ++ (bytesOf (u64 y) 5 ++ (bytesOf (u64 z) 5 ++ l)), 0) 2 = z := by show (fixS (fixK _ 2)).1 = _; rw [k2, fix_app z hz]
  generalize (bytesOf (u64 x) 5 ++ (bytesOf (u64 y) 5 ++ (bytesOf (u64 z) 5 ++ l)), (0 : Int)) = s at k1 k2 k3 v0 v1 v2 ⊢
  exact ⟨fixV s, by unfold threeS; rw [k3, if_neg (by simp)], v0, v1, v2⟩

theorem half_app (z : Int) (h : 0 ≤ z ∧ z < 65536) (l : List UInt8) : numS (bytesOf (u64 z) 2 ++ l, 0) 2 = (z.toNat, (l, 0)) := by
  rw [num_app, show u64 z % 256 ^ 2 = z.toNat by have := u64_cast z; omega]

theorem byte_app (z : Int) (h : 0 ≤ z ∧ z < 256) (l : List UInt8) : numS (bytesOf (u64 z) 1 ++ l, 0) 1 = (z.toNat, (l, 0)) := by
  rw [num_app, show u64 z % 256 ^ 1 = z.toNat by have := u64_cast z; omega]

theorem small_app (z : Int) (h : -32768 ≤ z ∧ z < 32768) (l : List UInt8) : ∃ n, numS (bytesOf (u64 z) 2 ++ l, 0) 2 = (n, (l, 0)) ∧ small16 n = z := by
  refine ⟨u64 z % 256 ^ 2, num_app _ _ _, ?_⟩
  have hu := u64_cast z
  have e : (256 ^ 2 : Nat) = 65536 := by decide
  rw [e]
  unfold small16
  by_cases h0 : 0 ≤ z
  · have h1 : u64 z = z.toNat := by omega
    rw [h1, if_neg (by omega)]; omega
  · have h1 : (u64 z : Int) = z + 18446744073709551616 := by omega
    have h2 : u64 z % 65536 = (z + 65536).toNat := by omega
    rw [h2, if_pos (by omega)]; omega

theorem long_app (n : Nat) (h : n < 18446744073709551616) (l : List UInt8) : numS (bytesOf n 8 ++ l, 0) 8 = (n, (l, 0)) := by
  rw [num_app, Nat.mod_eq_of_lt (by have e : (256 ^ 8 : Nat) = 18446744073709551616 := by decide
                                    omega)]

theorem nums_cons (k : Nat) (z : Int) (r : List Int) : numsOf k (z :: r) = bytesOf (u64 z) k ++ numsOf k r := by simp [numsOf]

theorem many_app (n : Nat) (most : Nat) (hm : most < 256) (e : Int) (h : n ≤ most) (l : List UInt8) : manyS (bytesOf (u64 (n : Int)) 1 ++ l, 0) (most : Int) e = (n, (l, 0)) := by
  have h1 := byte_app (n : Int) (by omega) l
  rw [many_in (by rw [h1]; simp; omega), h1]
  simp

/-- things one behind the other -/
theorem split_app {A : Nat → List UInt8} {c : Nat → List UInt8} (hA : ∀ k, A (k + 1) = A k ++ c k) (k : Nat) : ∀ n, k ≤ n → ∃ t, A n = A k ++ t := by
  intro n
  induction n with
  | zero => intro h; obtain rfl : k = 0 := by omega
            exact ⟨[], by simp⟩
  | succ n ih =>
    intro h
    by_cases e : k = n + 1
    · subst e; exact ⟨[], by simp⟩
    · obtain ⟨t, ht⟩ := ih (by omega)
      exact ⟨t ++ c n, by rw [hA, ht, List.append_assoc]⟩

theorem it_app {e : St → St} {A : Nat → List UInt8} {c : Nat → List UInt8} {n : Nat} (h0 : A 0 = []) (hA : ∀ k, A (k + 1) = A k ++ c k) (he : ∀ k, k < n → ∀ l, e (c k ++ l, 0) = (l, 0)) :
    ∀ k, k ≤ n → ∀ l, itS e (A k ++ l, 0) k = (l, 0) := by
  intro k
  induction k with
  | zero => intro _ l; rw [h0]; rfl
  | succ k ih =>
    intro hk l
    show e (itS e _ k) = _
    rw [hA, List.append_assoc, ih (by omega)]
    exact he k (by omega) l

theorem it_mid {e : St → St} {A : Nat → List UInt8} {c : Nat → List UInt8} {n : Nat} (h0 : A 0 = []) (hA : ∀ k, A (k + 1) = A k ++ c k) (he : ∀ k, k < n → ∀ l, e (c k ++ l, 0) = (l, 0)) (l : List UInt8) (k : Nat) (hk : k < n) :
    ∃ t, itS e (A n ++ l, 0) k = (c k ++ t, 0) := by
  obtain ⟨t, ht⟩ := split_app hA (k + 1) n (by omega)
  refine ⟨t ++ l, ?_⟩
  rw [ht, hA, List.append_assoc, List.append_assoc, it_app h0 hA he k (by omega)]

theorem itV_back {e : St → St} {v : St → Nat → Int} {w : Nat} {L : Nat → Int} {A : Nat → List UInt8} {c : Nat → List UInt8} {n : Nat} (hw : 0 < w) (h0 : A 0 = []) (hA : ∀ k, A (k + 1) = A k ++ c k) (he : ∀ k, k < n → ∀ l, e (c k ++ l, 0) = (l, 0))
    (hv : ∀ k, k < n → ∀ l q, q < w → v (c k ++ l, 0) q = L (k * w + q)) (l : List UInt8) : ∀ j, j < n * w → itV e v w (A n ++ l, 0) j = L j := by
  intro j hj
  have h1 : j / w < n := (Nat.div_lt_iff_lt_mul hw).2 hj
  obtain ⟨t, ht⟩ := it_mid h0 hA he l (j / w) h1
  unfold itV
  rw [ht, hv _ h1 _ _ (Nat.mod_lt _ hw), Nat.div_add_mod']

theorem five {p : Nat → Prop} (h0 : p 0) (h1 : p 1) (h2 : p 2) (h3 : p 3) (h4 : p 4) : ∀ q, q < 5 → p q := fun q h => by
  match q, h with
  | 0, _ => exact h0
  | 1, _ => exact h1
  | 2, _ => exact h2
  | 3, _ => exact h3
  | 4, _ => exact h4

theorem four {p : Nat → Prop} (h0 : p 0) (h1 : p 1) (h2 : p 2) (h3 : p 3) : ∀ q, q < 4 → p q := fun q h => by
  match q, h with
  | 0, _ => exact h0
  | 1, _ => exact h1
  | 2, _ => exact h2
  | 3, _ => exact h3

theorem paint_back (k r g b q : Int) (h : paintB k r g b q = true) (l : List UInt8) :
    paintE (numsOf 1 [k] ++ (numsOf 5 [r, g, b] ++ numsOf 5 [q]) ++ l, 0) = (l, 0) ∧ ∀ L : Nat → Int, L 0 = k → L 1 = r → L 2 = g → L 3 = b → L 4 = q → ∀ i, i < 5 → paintV (numsOf 1 [k] ++ (numsOf 5 [r, g, b] ++ numsOf 5 [q]) ++ l, 0) i = L i := by
  simp only [paintB, lightB, Bool.and_eq_true, inB_true] at h
  simp only [nums_cons, numsOf_nil, List.append_assoc, List.nil_append, List.append_nil]
  obtain ⟨f, h3, f0, f1, f2⟩ := three_app r g b (by omega) (by omega) (by omega) (bytesOf (u64 q) 5 ++ l)
  unfold paintE paintV
  simp only [byte_app k (by omega), h3, fix_app q (by omega)]
  refine ⟨trivial, fun L l0 l1 l2 l3 l4 => five ?_ ?_ ?_ ?_ ?_⟩
  · show ((k.toNat : Nat) : Int) = _; omega
  · show f 0 = _; omega
  · show f 1 = _; omega
  · show f 2 = _; omega
  · show q = _; omega

theorem joint_back (i nt : Nat) (p m t z : Int) (hi : i ≤ 1000) (hn : nt ≤ 1000) (h : jointB i nt p m t z = true) (l : List UInt8) :
    jointE (numsOf 2 [p, m, t] ++ numsOf 5 [z] ++ l, 0) = (l, 0) ∧ ∀ L : Nat → Int, L 0 = p → L 1 = m → L 2 = t → L 3 = z → ∀ i, i < 4 → jointV (numsOf 2 [p, m, t] ++ numsOf 5 [z] ++ l, 0) i = L i := by
  simp only [jointB, Bool.and_eq_true, inB_true] at h
  simp only [nums_cons, numsOf_nil, List.append_assoc, List.nil_append, List.append_nil]
  obtain ⟨n1, e1, g1⟩ := small_app p (by omega) (bytesOf (u64 m) 2 ++ (bytesOf (u64 t) 2 ++ (bytesOf (u64 z) 5 ++ l)))
  obtain ⟨n2, e2, g2⟩ := small_app m (by omega) (bytesOf (u64 t) 2 ++ (bytesOf (u64 z) 5 ++ l))
  obtain ⟨n3, e3, g3⟩ := small_app t (by omega) (bytesOf (u64 z) 5 ++ l)
  unfold jointE jointV
  simp only [e1, e2, e3, g1, g2, g3, fix_app z (by omega)]
  refine ⟨trivial, fun L l0 l1 l2 l3 => four ?_ ?_ ?_ ?_⟩
  · show p = _; omega
  · show m = _; omega
  · show t = _; omega
  · show z = _; omega

end Go.Proofs.YtfbppiamlolfpaaGreat.Jb
