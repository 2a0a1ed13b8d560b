/- Jobs, plainly: the whole scene that was laid is read as it was. -/
import Derived.Test.YtfbppiamlolfpaaGreatC41
namespace Go.Proofs.YtfbppiamlolfpaaGreat.Jb
open Go.RowKit Go.Proofs.YtfbppiamlolfpaaGreat Go.Proofs.YtfbppiamlolfpaaGreat.Rp Go.Proofs.YtfbppiamlolfpaaGreat.Re Go.Proofs.YtfbppiamlolfpaaGreat.Au Go.Proofs.YtfbppiamlolfpaaGreat.Sc Go.Proofs.YtfbppiamlolfpaaGreat.Tk
open Go.Proofs.YtfbppiamlolfpaaGreat.Jw (paintsOf tracksOf jointsOf shapesOf keysOf shpB mgL mgk encScn sceneB)
set_option linter.unusedVariables false
set_option linter.unusedSimpArgs false

theorem key_back (t x y z : Int) (h : mayB t x y z = true) (l : List UInt8) :
    keyE (numsOf 5 [t] ++ numsOf 5 [x, y, z] ++ l, 0) = (l, 0) ∧ ∀ L : Nat → Int, L 0 = t → L 1 = x → L 2 = y → L 3 = z → ∀ i, i < 4 → keyV (numsOf 5 [t] ++ numsOf 5 [x, y, z] ++ l, 0) i = L i := by
  rw [mayB_true] at h
  simp only [nums_cons, numsOf_nil, List.append_assoc, List.nil_append, List.append_nil]
  obtain ⟨f, h3, f0, f1, f2⟩ := three_app x y z (by omega) (by omega) (by omega) l
  unfold keyE keyV
  simp only [fix_app t (by omega), h3]
  refine ⟨trivial, fun L l0 l1 l2 l3 => four ?_ ?_ ?_ ?_⟩
  · show t = _; omega
  · show f 0 = _; omega
  · show f 1 = _; omega
  · show f 2 = _; omega

theorem keys_back (K : Nat → Int) (n : Nat) (h : ∀ k, k < n → okKey K k = true) (l : List UInt8) :
    itS keyE (keysOf K n ++ l, 0) n = (l, 0) ∧ ∀ j, j < n * 4 → itV keyE keyV 4 (keysOf K n ++ l, 0) j = K j := by
  have hm : ∀ k, k < n → mayB (K (k * 4)) (K (k * 4 + 1)) (K (k * 4 + 2)) (K (k * 4 + 3)) = true := fun k hk => by
    have := h k hk
    unfold okKey at this
    simp only [Bool.and_eq_true] at this
    exact this.1
  have he : ∀ k, k < n → ∀ l, keyE ((numsOf 5 [K (k * 4)] ++ numsOf 5 [K (k * 4 + 1), K (k * 4 + 2), K (k * 4 + 3)]) ++ l, 0) = (l, 0) := fun k hk l => (key_back _ _ _ _ (hm k hk) l).1
  exact ⟨it_app (A := keysOf K) rfl (fun _ => rfl) he n (Nat.le_refl _) l,
    itV_back (A := keysOf K) (L := K) (by omega) rfl (fun _ => rfl) he (fun k hk l q hq => (key_back _ _ _ _ (hm k hk) l).2 (fun q => K (k * 4 + q)) rfl rfl rfl rfl q hq) l⟩

theorem track_back (way : Int) (n : Nat) (K : Nat → Int) (h : rightB way n K = true) (l : List UInt8) :
    trackE (numsOf 1 [way, (n : Int)] ++ keysOf K n ++ l, 0) = (l, 0) ∧ trackW (numsOf 1 [way, (n : Int)] ++ keysOf K n ++ l, 0) = way ∧ trackN (numsOf 1 [way, (n : Int)] ++ keysOf K n ++ l, 0) = n ∧ ∀ j, j < n * 4 → trackK (numsOf 1 [way, (n : Int)] ++ keysOf K n ++ l, 0) j = K j := by
  unfold rightB at h
  simp only [Bool.and_eq_true, decide_eq_true_eq] at h
  obtain ⟨h1, h2⟩ := h
  have hk := keys_back K n (fun k hk => okUpto_all h2 k hk) l
  simp only [nums_cons, numsOf_nil, List.append_assoc, List.nil_append, List.append_nil]
  have hM : trackM (bytesOf (u64 way) 1 ++ (bytesOf (u64 (n : Int)) 1 ++ (keysOf K n ++ l)), 0) = (n, (keysOf K n ++ l, 0)) := by
    unfold trackM
    rw [byte_app way (by omega)]
    exact many_app n 16 (by omega) 23 (by omega) _
  unfold trackE trackW trackN trackK
  rw [hM, byte_app way (by omega)]
  exact ⟨hk.1, by show ((way.toNat : Nat) : Int) = way; omega, rfl, hk.2⟩

theorem tracks_back (way : Nat → Int) (kn : Nat → Nat) (K : Nat → Nat → Int) (n : Nat) (h : ∀ i, i < n → rightB (way i) (kn i) (K i) = true) (l : List UInt8) :
    itS trackE (tracksOf way kn K n ++ l, 0) n = (l, 0) ∧ ∀ i, i < n → trackW (itS trackE (tracksOf way kn K n ++ l, 0) i) = way i ∧ trackN (itS trackE (tracksOf way kn K n ++ l, 0) i) = kn i ∧ ∀ j, j < kn i * 4 → trackK (itS trackE (tracksOf way kn K n ++ l, 0) i) j = K i j := by
  have he : ∀ k, k < n → ∀ l, trackE ((numsOf 1 [way k, (kn k : Int)] ++ keysOf (K k) (kn k)) ++ l, 0) = (l, 0) := fun k hk l => (track_back _ _ _ (h k hk) l).1
  refine ⟨it_app (A := tracksOf way kn K) rfl (fun _ => rfl) he n (Nat.le_refl _) l, fun i hi => ?_⟩
  obtain ⟨t, ht⟩ := it_mid (A := tracksOf way kn K) rfl (fun _ => rfl) he l i hi
  rw [ht]
  exact (track_back _ _ _ (h i hi) t).2

theorem paints_back (P : Nat → Int) (n : Nat) (h : ∀ k, k < n → paintB (P (k * 5)) (P (k * 5 + 1)) (P (k * 5 + 2)) (P (k * 5 + 3)) (P (k * 5 + 4)) = true) (l : List UInt8) :
    itS paintE (paintsOf P n ++ l, 0) n = (l, 0) ∧ ∀ j, j < n * 5 → itV paintE paintV 5 (paintsOf P n ++ l, 0) j = P j := by
  have he : ∀ k, k < n → ∀ l, paintE ((numsOf 1 [P (k * 5)] ++ (numsOf 5 [P (k * 5 + 1), P (k * 5 + 2), P (k * 5 + 3)] ++ numsOf 5 [P (k * 5 + 4)])) ++ l, 0) = (l, 0) := fun k hk l => (paint_back _ _ _ _ _ (h k hk) l).1
  exact ⟨it_app (A := paintsOf P) rfl (fun _ => rfl) he n (Nat.le_refl _) l,
    itV_back (A := paintsOf P) (L := P) (by omega) rfl (fun _ => rfl) he (fun k hk l q hq => (paint_back _ _ _ _ _ (h k hk) l).2 (fun q => P (k * 5 + q)) rfl rfl rfl rfl rfl q hq) l⟩

theorem joints_back (J : Nat → Int) (n nt : Nat) (hn : n ≤ 1000) (hnt : nt ≤ 1000) (h : ∀ k, k < n → jointB k nt (J (k * 4)) (J (k * 4 + 1)) (J (k * 4 + 2)) (J (k * 4 + 3)) = true) (l : List UInt8) :
    itS jointE (jointsOf J n ++ l, 0) n = (l, 0) ∧ ∀ j, j < n * 4 → itV jointE jointV 4 (jointsOf J n ++ l, 0) j = J j := by
  have he : ∀ k, k < n → ∀ l, jointE ((numsOf 2 [J (k * 4), J (k * 4 + 1), J (k * 4 + 2)] ++ numsOf 5 [J (k * 4 + 3)]) ++ l, 0) = (l, 0) := fun k hk l => (joint_back k nt _ _ _ _ (by omega) hnt (h k hk) l).1
  exact ⟨it_app (A := jointsOf J) rfl (fun _ => rfl) he n (Nat.le_refl _) l,
    itV_back (A := jointsOf J) (L := J) (by omega) rfl (fun _ => rfl) he (fun k hk l q hq => (joint_back k nt _ _ _ _ (by omega) hnt (h k hk) l).2 (fun q => J (k * 4 + q)) rfl rfl rfl rfl q hq) l⟩

theorem thirteen {p : Nat → Prop} (h0 : p 0) (h1 : p 1) (h2 : p 2) (h3 : p 3) (h4 : p 4) (h5 : p 5) (h6 : p 6) (h7 : p 7) (h8 : p 8) (h9 : p 9) (h10 : p 10) (h11 : p 11) (h12 : p 12) : ∀ q, q < 13 → p q := fun q h => by
  match q, h with
  | 0, _ => exact h0
  | 1, _ => exact h1
  | 2, _ => exact h2
  | 3, _ => exact h3
  | 4, _ => exact h4
  | 5, _ => exact h5
  | 6, _ => exact h6
  | 7, _ => exact h7
  | 8, _ => exact h8
  | 9, _ => exact h9
  | 10, _ => exact h10
  | 11, _ => exact h11
  | 12, _ => exact h12

theorem shape_back (nj np : Nat) (hj : nj ≤ 1000) (hp : np ≤ 1000) (L : Nat → Int) (h : shapeB nj np L = true) (l : List UInt8) :
    shapeE (shpB (L 0) (L 1) (L 2) (L 3) (L 4) (L 5) (L 6) (L 7) (L 8) (L 9) (L 10) (L 11) (L 12) ++ l, 0) = (l, 0) ∧ ∀ i, i < 13 → shapeV (shpB (L 0) (L 1) (L 2) (L 3) (L 4) (L 5) (L 6) (L 7) (L 8) (L 9) (L 10) (L 11) (L 12) ++ l, 0) i = L i := by
  unfold shapeB pointB at h
  unfold shpB
  by_cases hk : L 2 = 0
  · rw [if_pos hk] at h ⊢
    simp only [Bool.and_eq_true, inB_true, decide_eq_true_eq] at h
    obtain ⟨⟨⟨h0, h1⟩, ⟨h3, h4⟩, h5⟩, ⟨h6, h7, h8, h9, h10, h11⟩, h12⟩ := h
    simp only [nums_cons, numsOf_nil, List.append_assoc, List.nil_append, List.append_nil]
    obtain ⟨n1, e1, g1⟩ := small_app (L 0) (by omega) (bytesOf (u64 (L 1)) 2 ++ (bytesOf (u64 (L 2)) 1 ++ (bytesOf (u64 (L 3)) 5 ++ (bytesOf (u64 (L 4)) 5 ++ (bytesOf (u64 (L 5)) 5 ++ (bytesOf (u64 (L 12)) 5 ++ l))))))
    obtain ⟨f, e2, f0, f1, f2⟩ := three_app (L 3) (L 4) (L 5) (by omega) (by omega) (by omega) (bytesOf (u64 (L 12)) 5 ++ l)
    have ek : (((L 2).toNat : Nat) : Int) = 0 := by omega
    unfold shapeE shapeV
    simp only [e1, g1, half_app (L 1) (by omega), byte_app (L 2) (by omega), e2, fix_app (L 12) (by omega), ek, if_true, show ¬ ((0 : Int) = 1) by decide, if_false]
    refine ⟨trivial, thirteen ?_ ?_ ?_ ?_ ?_ ?_ ?_ ?_ ?_ ?_ ?_ ?_ ?_⟩
    · rfl
    · show (((L 1).toNat : Nat) : Int) = _; omega
    · exact hk.symm
    · exact f0
    · exact f1
    · exact f2
    · exact h6.symm
    · exact h7.symm
    · exact h8.symm
    · exact h9.symm
    · exact h10.symm
    · exact h11.symm
    · rfl
  · rw [if_neg hk] at h ⊢
    simp only [Bool.and_eq_true, inB_true, decide_eq_true_eq] at h
    obtain ⟨⟨⟨h0, h1⟩, ⟨h3, h4⟩, h5⟩, ⟨⟨hk1, ⟨h6, h7⟩, h8⟩, ⟨h9, h10⟩, h11⟩, h12⟩ := h
    simp only [nums_cons, numsOf_nil, List.append_assoc, List.nil_append, List.append_nil]
    obtain ⟨n1, e1, g1⟩ := small_app (L 0) (by omega) (bytesOf (u64 (L 1)) 2 ++ (bytesOf (u64 (L 2)) 1 ++ (bytesOf (u64 (L 3)) 5 ++ (bytesOf (u64 (L 4)) 5 ++ (bytesOf (u64 (L 5)) 5 ++ (bytesOf (u64 (L 6)) 5 ++ (bytesOf (u64 (L 7)) 5 ++ (bytesOf (u64 (L 8)) 5 ++ (bytesOf (u64 (L 9)) 5 ++ (bytesOf (u64 (L 10)) 5 ++ (bytesOf (u64 (L 11)) 5 ++ l)))))))))))
    obtain ⟨f, e2, f0, f1, f2⟩ := three_app (L 3) (L 4) (L 5) (by omega) (by omega) (by omega) (bytesOf (u64 (L 6)) 5 ++ (bytesOf (u64 (L 7)) 5 ++ (bytesOf (u64 (L 8)) 5 ++ (bytesOf (u64 (L 9)) 5 ++ (bytesOf (u64 (L 10)) 5 ++ (bytesOf (u64 (L 11)) 5 ++ l))))))
    obtain ⟨f', e3, f3, f4, f5⟩ := three_app (L 6) (L 7) (L 8) (by omega) (by omega) (by omega) (bytesOf (u64 (L 9)) 5 ++ (bytesOf (u64 (L 10)) 5 ++ (bytesOf (u64 (L 11)) 5 ++ l)))
    obtain ⟨f'', e4, f6, f7, f8⟩ := three_app (L 9) (L 10) (L 11) (by omega) (by omega) (by omega) l
    have ek : (((L 2).toNat : Nat) : Int) = 1 := by omega
    unfold shapeE shapeV
    simp only [e1, g1, half_app (L 1) (by omega), byte_app (L 2) (by omega), e2, e3, e4, ek, if_true, show ¬ ((1 : Int) = 0) by decide, if_false]
    refine ⟨trivial, thirteen ?_ ?_ ?_ ?_ ?_ ?_ ?_ ?_ ?_ ?_ ?_ ?_ ?_⟩
    · rfl
    · show (((L 1).toNat : Nat) : Int) = _; omega
    · exact hk1.symm
    · exact f0
    · exact f1
    · exact f2
    · exact f3
    · exact f4
    · exact f5
    · exact f6
    · exact f7
    · exact f8
    · exact h12.symm

theorem shapes_back (S : Nat → Int) (n nj np : Nat) (hj : nj ≤ 1000) (hp : np ≤ 1000) (h : ∀ k, k < n → shapeB nj np (fun j => S (k * 13 + j)) = true) (l : List UInt8) :
    itS shapeE (shapesOf S n ++ l, 0) n = (l, 0) ∧ ∀ j, j < n * 13 → itV shapeE shapeV 13 (shapesOf S n ++ l, 0) j = S j := by
  have he : ∀ k, k < n → ∀ l, shapeE (shpB (S (k * 13)) (S (k * 13 + 1)) (S (k * 13 + 2)) (S (k * 13 + 3)) (S (k * 13 + 4)) (S (k * 13 + 5)) (S (k * 13 + 6)) (S (k * 13 + 7)) (S (k * 13 + 8)) (S (k * 13 + 9)) (S (k * 13 + 10)) (S (k * 13 + 11)) (S (k * 13 + 12)) ++ l, 0) = (l, 0) := fun k hk l => (shape_back nj np hj hp _ (h k hk) l).1
  exact ⟨it_app (A := shapesOf S) rfl (fun _ => rfl) he n (Nat.le_refl _) l,
    itV_back (A := shapesOf S) (L := S) (by omega) rfl (fun _ => rfl) he (fun k hk l q hq => (shape_back nj np hj hp _ (h k hk) l).2 q hq) l⟩

theorem mg_app (b : Nat) (hb : b < 256) (l : List UInt8) : mg b (bytesOf (u64 (b : Int)) 1 ++ l, 0) = (l, 0) := by
  have h := byte_app (b : Int) (by omega) l
  rw [mg_is (by rw [h]; simp), h]

theorem magic_back (l : List UInt8) : mgK (mgL 4 ++ l, 0) 4 = (l, 0) := by
  have e : mgL 4 ++ l = bytesOf (u64 ((90 : Nat) : Int)) 1 ++ (bytesOf (u64 ((79 : Nat) : Int)) 1 ++ (bytesOf (u64 ((69 : Nat) : Int)) 1 ++ (bytesOf (u64 ((49 : Nat) : Int)) 1 ++ l))) := by
    simp [mgL, mgk]
  rw [e]
  show mg 49 (mg 69 (mg 79 (mg 90 _))) = _
  rw [show ∀ s : St, mgK s 0 = s from fun _ => rfl, mg_app 90 (by omega), mg_app 79 (by omega), mg_app 69 (by omega), mg_app 49 (by omega)]

/-- two scenes of the same numbers -/
structure SameS (q s : Scn) : Prop where
  w : q.w = s.w
  h : q.h = s.h
  sm : q.sm = s.sm
  dp : q.dp = s.dp
  fr : q.fr = s.fr
  sh : q.sh = s.sh
  sd : q.sd = s.sd
  r : q.r = s.r
  g : q.g = s.g
  b : q.b = s.b
  ey : q.ey = s.ey
  lk : q.lk = s.lk
  wd : q.wd = s.wd
  np : q.np = s.np
  P : ∀ j, j < s.np * 5 → q.P j = s.P j
  nt : q.nt = s.nt
  way : ∀ i, i < s.nt → q.way i = s.way i
  kn : ∀ i, i < s.nt → q.kn i = s.kn i
  K : ∀ i, i < s.nt → ∀ j, j < s.kn i * 4 → q.K i j = s.K i j
  nj : q.nj = s.nj
  J : ∀ j, j < s.nj * 4 → q.J j = s.J j
  ns : q.ns = s.ns
  S : ∀ j, j < s.ns * 13 → q.S j = s.S j

theorem SameS.sv {q s : Scn} (h : SameS q s) (a : Pla) : SV q a = SV s a := by
  simp only [SV, SC, h.w, h.h, h.sm, h.dp, h.fr, h.sh, h.sd, h.r, h.g, h.b, h.ey, h.lk, h.wd, h.np, h.nt, h.nj, h.ns]

theorem SameS.at {q s : Scn} (h : SameS q s) {w : World} {a : Pla} (hs : ScAt w q a) : ScAt w s a := by
  constructor
  · have := hs.p; rw [h.np] at this; exact this.congr h.P
  · have ht := hs.t
    rw [h.nt] at ht
    obtain ⟨h0, h1 | ⟨b, off, e, hlt, hc⟩⟩ := ht
    · exact ⟨h0, .inl h1⟩
    · refine ⟨h0, .inr ⟨b, off, e, hlt, fun i hi => ?_⟩⟩
      obtain ⟨ka, kc, k1, k2, k3⟩ := hc i hi
      rw [h.way i hi] at k1
      rw [h.kn i hi] at k2 k3
      refine ⟨ka, kc, k1, k2, k3.1, ?_⟩
      rcases k3.2 with h5 | ⟨b', off', e', hlt', hc'⟩
      · exact .inl h5
      · exact .inr ⟨b', off', e', hlt', fun j hj => by rw [hc' j hj, h.K i hi j hj]⟩
  · have := hs.j; rw [h.nj] at this; exact this.congr h.J
  · have := hs.sh; rw [h.ns] at this; exact this.congr h.S
  · rw [← h.sd]; exact hs.sd

end Go.Proofs.YtfbppiamlolfpaaGreat.Jb
