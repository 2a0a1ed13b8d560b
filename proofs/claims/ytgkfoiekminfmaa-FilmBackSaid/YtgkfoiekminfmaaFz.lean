/- Films whose numbers lie in layer 1's span: the law's Held. -/
import Derived.Test.YtgkfoiekminfmaaFl
import Derived.Test.YtgkfoiekminfmaaFg
import Derived.Test.YtgkfoiekminfmaaWb
namespace Go.Proofs.Ytgkfoiekminfmaa.Fm
open Go Go.RowKit Go.Proofs.Ytgkfoiekminfmaa Go.Proofs.Ytgkfoiekminfmaa.Rp Go.Proofs.Ytgkfoiekminfmaa.Re Go.Proofs.Ytgkfoiekminfmaa.Au Go.Proofs.Ytgkfoiekminfmaa.Jw
set_option linter.unusedVariables false
set_option linter.unusedSimpArgs false


/-! ### what was laid is read -/
theorem take_app (p l : List UInt8) (n : Nat) (h : p.length = n) : takeS (p ++ l, 0) n = (p, (l, 0)) := by
  subst h
  rw [takeS_ok (by simp)]
  simp

theorem num_app (m k : Nat) (l : List UInt8) : numS (bytesOf m k ++ l, 0) k = (m % 256 ^ k, (l, 0)) := by
  unfold numS; rw [take_app _ _ _ (bytesOf_length m k), numOf_bytesOf]

theorem sign_back (z : Int) (h : -2147483648 ≤ z ∧ z ≤ 2147483648) : sign40 (Rp.u64 z % 256 ^ 5) = z := by
  have e : (256 ^ 5 : Nat) = 1099511627776 := by decide
  rw [e]
  have hu := u64_cast z
  unfold sign40
  by_cases h0 : 0 ≤ z
  · have h1 : Rp.u64 z = z.toNat := by omega
    rw [h1, if_neg (by omega)]; omega
  · have h1 : (Rp.u64 z : Int) = z + 18446744073709551616 := by omega
    have h2 : Rp.u64 z % 1099511627776 = (z + 1099511627776).toNat := by omega
    rw [h2, if_pos (by omega)]; omega

theorem fix_app (z : Int) (h : -2147483648 ≤ z ∧ z ≤ 2147483648) (l : List UInt8) : fixS (bytesOf (Rp.u64 z) 5 ++ l, 0) = (z, (l, 0)) := by
  unfold fixS
  rw [num_app]
  simp only []
  rw [sign_back z h, if_neg (by omega)]

theorem nums_cons (k : Nat) (z : Int) (r : List Int) : numsOf k (z :: r) = bytesOf (Rp.u64 z) k ++ numsOf k r := by simp [numsOf]

theorem three_app (x y z : Int) (hx : -2147483648 ≤ x ∧ x ≤ 2147483648) (hy : -2147483648 ≤ y ∧ y ≤ 2147483648) (hz : -2147483648 ≤ z ∧ z ≤ 2147483648) (l : List UInt8) :
    triE (numsOf 5 [x, y, z] ++ l, 0) = (l, 0) ∧ triV (numsOf 5 [x, y, z] ++ l, 0) 0 = x ∧ triV (numsOf 5 [x, y, z] ++ l, 0) 1 = y ∧ triV (numsOf 5 [x, y, z] ++ l, 0) 2 = z := by
  have e : numsOf 5 [x, y, z] ++ l = bytesOf (Rp.u64 x) 5 ++ (bytesOf (Rp.u64 y) 5 ++ (bytesOf (Rp.u64 z) 5 ++ l)) := by simp only [nums_cons, numsOf_nil, List.append_assoc, List.append_nil, List.nil_append]
  rw [e]
  obtain ⟨s, hs⟩ : ∃ s : St, s = (bytesOf (Rp.u64 x) 5 ++ (bytesOf (Rp.u64 y) 5 ++ (bytesOf (Rp.u64 z) 5 ++ l)), 0) := ⟨_, rfl⟩
  have f0 : fixS s = (x, (bytesOf (Rp.u64 y) 5 ++ (bytesOf (Rp.u64 z) 5 ++ l), 0)) := by rw [hs]; exact fix_app x hx _
  rw [← hs]
  have k1 : fixK s 1 = (bytesOf (Rp.u64 y) 5 ++ (bytesOf (Rp.u64 z) 5 ++ l), 0) := by show (fixS s).2 = _; rw [f0]
  have k2 : fixK s 2 = (bytesOf (Rp.u64 z) 5 ++ l, 0) := by show (fixS (fixK s 1)).2 = _; rw [k1, fix_app y hy]
  have k3 : fixK s 3 = (l, 0) := by show (fixS (fixK s 2)).2 = _; rw [k2, fix_app z hz]
  have v0 : fixV s 0 = x := by show (fixS s).1 = _; rw [f0]
  have v1 : fixV s 1 = y := by show (fixS (fixK s 1)).1 = _; rw [k1, fix_app y hy]
  have v2 : fixV s 2 = z := by show (fixS (fixK s 2)).1 = _; rw [k2, fix_app z hz]
  have e3 : threeS s = (fixV s, (l, 0)) := by unfold threeS; rw [k3, if_neg (by simp)]
  unfold triE triV
  rw [e3]
  exact ⟨rfl, v0, v1, v2⟩

theorem half_app (z : Int) (h : 0 ≤ z ∧ z < 65536) (l : List UInt8) : numS (bytesOf (Rp.u64 z) 2 ++ l, 0) 2 = (z.toNat, (l, 0)) := by
  rw [num_app, show Rp.u64 z % 256 ^ 2 = z.toNat by have := u64_cast z; omega]

theorem small_app (z : Int) (h : -32768 ≤ z ∧ z < 32768) (l : List UInt8) : smlE (bytesOf (Rp.u64 z) 2 ++ l, 0) = (l, 0) ∧ ∀ q, smlV (bytesOf (Rp.u64 z) 2 ++ l, 0) q = z := by
  unfold smlE smlV
  rw [num_app]
  refine ⟨rfl, fun q => ?_⟩
  show small16 (Rp.u64 z % 256 ^ 2) = z
  have hu := u64_cast z
  have e : (256 ^ 2 : Nat) = 65536 := by decide
  rw [e]
  unfold small16
  by_cases h0 : 0 ≤ z
  · have h1 : Rp.u64 z = z.toNat := by omega
    rw [h1, if_neg (by omega)]; omega
  · have h1 : (Rp.u64 z : Int) = z + 18446744073709551616 := by omega
    have h2 : Rp.u64 z % 65536 = (z + 65536).toNat := by omega
    rw [h2, if_pos (by omega)]; omega

theorem split_app {A : Nat → List UInt8} {c : Nat → List UInt8} (hA : ∀ k, A (k + 1) = A k ++ c k) (k : Nat) : ∀ n, k ≤ n → ∃ t, A n = A k ++ t := by
  intro n
  induction n with
  | zero => intro h; obtain rfl : k = 0 := by omega
            exact ⟨[], by simp⟩
  | succ n ih =>
    intro h
    by_cases e : k = n + 1
    · subst e; exact ⟨[], by simp⟩
    · obtain ⟨t, ht⟩ := ih (by omega)
      exact ⟨t ++ c n, by rw [hA, ht, List.append_assoc]⟩

theorem it_app {e : St → St} {A : Nat → List UInt8} {c : Nat → List UInt8} {n : Nat} (h0 : A 0 = []) (hA : ∀ k, A (k + 1) = A k ++ c k) (he : ∀ k, k < n → ∀ l, e (c k ++ l, 0) = (l, 0)) :
    ∀ k, k ≤ n → ∀ l, itS e (A k ++ l, 0) k = (l, 0) := by
  intro k
  induction k with
  | zero => intro _ l; rw [h0]; rfl
  | succ k ih =>
    intro hk l
    show e (itS e _ k) = _
    rw [hA, List.append_assoc, ih (by omega)]
    exact he k (by omega) l

theorem it_mid {e : St → St} {A : Nat → List UInt8} {c : Nat → List UInt8} {n : Nat} (h0 : A 0 = []) (hA : ∀ k, A (k + 1) = A k ++ c k) (he : ∀ k, k < n → ∀ l, e (c k ++ l, 0) = (l, 0)) (l : List UInt8) (k : Nat) (hk : k < n) :
    ∃ t, itS e (A n ++ l, 0) k = (c k ++ t, 0) := by
  obtain ⟨t, ht⟩ := split_app hA (k + 1) n (by omega)
  refine ⟨t ++ l, ?_⟩
  rw [ht, hA, List.append_assoc, List.append_assoc, it_app h0 hA he k (by omega)]

theorem itV_back {e : St → St} {v : St → Nat → Int} {w : Nat} {L : Nat → Int} {A : Nat → List UInt8} {c : Nat → List UInt8} {n : Nat} (hw : 0 < w) (h0 : A 0 = []) (hA : ∀ k, A (k + 1) = A k ++ c k) (he : ∀ k, k < n → ∀ l, e (c k ++ l, 0) = (l, 0))
    (hv : ∀ k, k < n → ∀ l q, q < w → v (c k ++ l, 0) q = L (k * w + q)) (l : List UInt8) : ∀ j, j < n * w → itV e v w (A n ++ l, 0) j = L j := by
  intro j hj
  have h1 : j / w < n := (Nat.div_lt_iff_lt_mul hw).2 hj
  obtain ⟨t, ht⟩ := it_mid h0 hA he l (j / w) h1
  unfold itV
  rw [ht, hv _ h1 _ _ (Nat.mod_lt _ hw), Nat.div_add_mod']

/-- numbers of layer 1 -/
def span (L : Nat → Int) (n : Nat) : Prop := ∀ j, j < n → -2147483648 ≤ L j ∧ L j ≤ 2147483648

theorem vecs_back (L : Nat → Int) (n : Nat) (h : span L (n * 3)) (l : List UInt8) : itS triE (vecsOf L n ++ l, 0) n = (l, 0) ∧ ∀ j, j < n * 3 → itV triE triV 3 (vecsOf L n ++ l, 0) j = L j := by
  have hb := fun k (hk : k < n) l => three_app (L (k * 3)) (L (k * 3 + 1)) (L (k * 3 + 2)) (h _ (by omega)) (h _ (by omega)) (h _ (by omega)) l
  have he : ∀ k, k < n → ∀ l, triE (numsOf 5 [L (k * 3), L (k * 3 + 1), L (k * 3 + 2)] ++ l, 0) = (l, 0) := fun k hk l => (hb k hk l).1
  refine ⟨it_app (A := vecsOf L) rfl (fun _ => rfl) he n (Nat.le_refl _) l, itV_back (A := vecsOf L) (by omega) rfl (fun _ => rfl) he (fun k hk l q hq => ?_) l⟩
  match q, hq with
  | 0, _ => exact (hb k hk l).2.1
  | 1, _ => exact (hb k hk l).2.2.1
  | 2, _ => exact (hb k hk l).2.2.2

theorem fixs_back (L : Nat → Int) (n : Nat) (h : span L n) (l : List UInt8) : itS oneE (bts 5 L n ++ l, 0) n = (l, 0) ∧ ∀ j, j < n * 1 → itV oneE oneV 1 (bts 5 L n ++ l, 0) j = L j := by
  have hb := fun k (hk : k < n) l => fix_app (L k) (h _ hk) l
  have he : ∀ k, k < n → ∀ l, oneE (bytesOf (Rp.u64 (L k)) 5 ++ l, 0) = (l, 0) := fun k hk l => by unfold oneE; rw [hb k hk l]
  refine ⟨it_app (A := bts 5 L) rfl (fun _ => rfl) he n (Nat.le_refl _) l, itV_back (A := bts 5 L) (by omega) rfl (fun _ => rfl) he (fun k hk l q hq => ?_) l⟩
  unfold oneV
  rw [hb k hk l, show k * 1 + q = k by omega]

theorem smalls_back (L : Nat → Int) (n : Nat) (h : ∀ j, j < n → -32768 ≤ L j ∧ L j < 32768) (l : List UInt8) : itS smlE (bts 2 L n ++ l, 0) n = (l, 0) ∧ ∀ j, j < n * 1 → itV smlE smlV 1 (bts 2 L n ++ l, 0) j = L j := by
  have hb := fun k (hk : k < n) l => small_app (L k) (h _ hk) l
  have he : ∀ k, k < n → ∀ l, smlE (bytesOf (Rp.u64 (L k)) 2 ++ l, 0) = (l, 0) := fun k hk l => (hb k hk l).1
  refine ⟨it_app (A := bts 2 L) rfl (fun _ => rfl) he n (Nat.le_refl _) l, itV_back (A := bts 2 L) (by omega) rfl (fun _ => rfl) he (fun k hk l q hq => ?_) l⟩
  rw [(hb k hk l).2 q, show k * 1 + q = k by omega]

/-- two films that hold the same -/
structure SameF (f g : Flm) : Prop where
  W : f.W = g.W
  H : f.H = g.H
  nl : f.nl = g.nl
  nd : f.nd = g.nd
  nn : f.nn = g.nn
  nb : f.nb = g.nb
  ns : f.ns = g.ns
  nf : f.nf = g.nf
  L : ∀ j, j < g.nl * 3 → f.L j = g.L j
  D : ∀ j, j < g.nd * 1 → f.D j = g.D j
  N : ∀ j, j < g.nn * 3 → f.N j = g.N j
  B : ∀ j, j < g.nb * 3 → f.B j = g.B j
  S : ∀ j, j < g.ns * 1 → f.S j = g.S j
  F : ∀ j, j < g.nf * 1 → f.F j = g.F j

theorem RwP.congr {P : Nat → Prop} {c : Nat} {w : World} {a : Option Addr} {n : Nat} {L L' : Nat → Int} (h : RwP P c w a n L) (e : ∀ j, j < n * c → L j = L' j) : RwP P c w a n L' := by
  rcases h with h | ⟨b, off, h1, h2, h3⟩
  · exact .inl h
  · exact .inr ⟨b, off, h1, h2, fun j hj => by rw [h3 j hj, e j hj]⟩

theorem Rw.congr {c : Nat} {w : World} {a : Option Addr} {n : Nat} {L L' : Nat → Int} (h : Rw c w a n L) (e : ∀ j, j < n * c → L j = L' j) : Rw c w a n L' := by
  rcases h with h | ⟨b, off, h1, h2, h3⟩
  · exact .inl h
  · exact .inr ⟨b, off, h1, h2, fun j hj => by rw [h3 j hj, e j hj]⟩

theorem FAt.same {w : World} {f g : Flm} {p : Pl} (h : FAt w f p) (s : SameF f g) : FAt w g p := by
  obtain ⟨sW, sH, snl, snd, snn, snb, sns, snf, sL, sD, sN, sB, sS, sF⟩ := s
  obtain ⟨W, H, nl, nd, nn, nb, ns, nf, L, D, N, B, S, F⟩ := f
  obtain ⟨W', H', nl', nd', nn', nb', ns', nf', L', D', N', B', S', F'⟩ := g
  simp only at sW sH snl snd snn snb sns snf sL sD sN sB sS sF
  subst sW sH snl snd snn snb sns snf
  obtain ⟨h1, h2, h3, h4, h5, h6⟩ := h
  exact ⟨h1.congr sL, h2.congr sD, h3.congr sN, h4.congr sB, h5.congr sS, h6.congr sF⟩

theorem FC_same {f g : Flm} (s : SameF f g) (p : Pl) : FC f p = FC g p := by
  obtain ⟨sW, sH, snl, snd, snn, snb, sns, snf, sL, sD, sN, sB, sS, sF⟩ := s
  unfold FC
  rw [sW, sH, snl, snd, snn, snb, sns, snf]

/-- what a film holds lies in layer 1's span -/
structure SpanF (f : Flm) : Prop where
  L : span f.L (f.nl * 3)
  D : span f.D f.nd
  N : span f.N (f.nn * 3)
  B : span f.B (f.nb * 3)

set_option maxHeartbeats 1000000 in
/-- a film that was laid is read as it was -/
theorem film_back (f : Flm) (ho : okF f) (hs : SpanF f) : flE (filmB f) = 0 ∧ SameF (fF (filmB f, 0)) f := by
  obtain ⟨⟨hsz, hl⟩, hd, hn, hb, ⟨hns, ls⟩, ⟨hnf, lf⟩⟩ := ho
  have hm := okSz_mul hsz
  obtain ⟨a1, a2, a3, a4⟩ := hsz
  obtain ⟨spL, spD, spN, spB⟩ := hs
  obtain ⟨W, H, nl, nd, nn, nb, ns, nf, L, D, N, B, S, F⟩ := f
  simp only at *
  obtain ⟨n, hN⟩ : ∃ n, n = nl := ⟨_, rfl⟩
  obtain rfl : nd = n := by omega
  obtain rfl : nn = nd := by omega
  obtain rfl : nb = nn := by omega
  obtain rfl : ns = nb := by omega
  obtain rfl : nf = ns := by omega
  subst hN
  obtain ⟨R5, hR5⟩ : ∃ R : List UInt8, R = [] := ⟨_, rfl⟩
  obtain ⟨R4, hR4⟩ : ∃ R : List UInt8, R = bts 2 F nf ++ R5 := ⟨_, rfl⟩
  obtain ⟨R3, hR3⟩ : ∃ R : List UInt8, R = bts 2 S nf ++ R4 := ⟨_, rfl⟩
  obtain ⟨R2, hR2⟩ : ∃ R : List UInt8, R = vecsOf B nf ++ R3 := ⟨_, rfl⟩
  obtain ⟨R1, hR1⟩ : ∃ R : List UInt8, R = vecsOf N nf ++ R2 := ⟨_, rfl⟩
  obtain ⟨R0, hR0⟩ : ∃ R : List UInt8, R = bts 5 D nf ++ R1 := ⟨_, rfl⟩
  obtain ⟨T, hT⟩ : ∃ R : List UInt8, R = vecsOf L nf ++ R0 := ⟨_, rfl⟩
  obtain ⟨s, hS⟩ : ∃ s : St, s = (filmB ⟨W, H, nf, nf, nf, nf, nf, nf, L, D, N, B, S, F⟩, 0) := ⟨_, rfl⟩
  have e0 : s = (bytesOf (Rp.u64 W) 2 ++ (bytesOf (Rp.u64 H) 2 ++ T), 0) := by
    rw [hS, hT, hR0, hR1, hR2, hR3, hR4, hR5]
    unfold filmB sheetB
    simp only [nums_cons, numsOf_nil, List.append_assoc, List.append_nil, List.nil_append]
  have n1 : numS s 2 = (W.toNat, (bytesOf (Rp.u64 H) 2 ++ T, 0)) := by rw [e0]; exact half_app W (by omega) _
  have n2 : numS (numS s 2).2 2 = (H.toNat, (T, 0)) := by rw [n1]; exact half_app H (by omega) _
  have eW : szW s = W := by unfold szW; rw [n1]; show ((W.toNat : Nat) : Int) = W; omega
  have eH : szH s = H := by unfold szH; rw [n2]; show ((H.toNat : Nat) : Int) = H; omega
  have ok : okSz (szW s) (szH s) := by rw [eW, eH]; exact ⟨a1, a2, a3, a4⟩
  have eS : szS s = (T, 0) := by unfold szS szT; rw [if_pos ok, n2]
  have fw : fW s = W := by unfold fW; rw [if_pos ok, eW]
  have fh : fH s = H := by unfold fH; rw [if_pos ok, eH]
  have fn : fN s = nf := by unfold fN; rw [fw, fh]; omega
  have p0 := vecs_back L nf spL R0
  have p1 := fixs_back D nf spD R1
  have p2 := vecs_back N nf spN R2
  have p3 := vecs_back B nf spB R3
  have p4 := smalls_back S nf (fun j hj => by have := ls j hj; omega) R4
  have p5 := smalls_back F nf (fun j hj => by have := lf j hj; omega) R5
  rw [← hT] at p0
  rw [← hR0] at p1
  rw [← hR1] at p2
  rw [← hR2] at p3
  rw [← hR3] at p4
  rw [← hR4] at p5
  have t0 : fT0 s = (R0, 0) := by unfold fT0; rw [eS, fn]; exact p0.1
  have t1 : fT1 s = (R1, 0) := by unfold fT1; rw [t0, fn]; exact p1.1
  have t2 : fT2 s = (R2, 0) := by unfold fT2; rw [t1, fn]; exact p2.1
  have t3 : fT3 s = (R3, 0) := by unfold fT3; rw [t2, fn]; exact p3.1
  have t4 : fT4 s = (R4, 0) := by unfold fT4; rw [t3, fn]; exact p4.1
  have t5 : fT5 s = (R5, 0) := by unfold fT5; rw [t4, fn]; exact p5.1
  refine ⟨?_, ?_⟩
  · unfold flE
    rw [← hS, t5, hR5]
    rfl
  · rw [← hS]
    refine ⟨fw, fh, fn, fn, fn, fn, fn, fn, fun j hj => ?_, fun j hj => ?_, fun j hj => ?_, fun j hj => ?_, fun j hj => ?_, fun j hj => ?_⟩
    · show itV triE triV 3 (szS s) j = L j; rw [eS]; exact p0.2 j hj
    · show itV oneE oneV 1 (fT0 s) j = D j; rw [t0]; exact p1.2 j hj
    · show itV triE triV 3 (fT1 s) j = N j; rw [t1]; exact p2.2 j hj
    · show itV triE triV 3 (fT2 s) j = B j; rw [t2]; exact p3.2 j hj
    · show itV smlE smlV 1 (fT3 s) j = S j; rw [t3]; exact p4.2 j hj
    · show itV smlE smlV 1 (fT4 s) j = F j; rw [t4]; exact p5.2 j hj

/-! ### what was read is laid -/
theorem byteAt_cons (b : UInt8) (m i : Nat) : byteAt (b.toNat + 256 * m) (i + 1) = byteAt m i := by
  unfold byteAt
  have hb := b.toNat_lt
  rw [Nat.pow_succ, Nat.mul_comm (256 ^ i) 256, ← Nat.div_div_eq_div_mul, show (b.toNat + 256 * m) / 256 = m by omega]

theorem byteAt_zero (b : UInt8) (m : Nat) : byteAt (b.toNat + 256 * m) 0 = b := by
  unfold byteAt
  have hb := b.toNat_lt
  rw [show (b.toNat + 256 * m) / 256 ^ 0 % 256 = b.toNat by rw [Nat.pow_zero, Nat.div_one]; omega]
  simp

theorem bytesOf_numOf : ∀ p : List UInt8, bytesOf (numOf p) p.length = p
  | [] => rfl
  | b :: r => by
    have ih := bytesOf_numOf r
    unfold bytesOf at ih ⊢
    rw [List.length_cons, List.range_succ_eq_map, List.map_cons, List.map_map]
    unfold numOf
    rw [byteAt_zero]
    congr 1
    refine Eq.trans (List.map_congr_left fun i _ => ?_) ih
    exact byteAt_cons b (numOf r) i

theorem bytesOf_mod (n k : Nat) : bytesOf (n % 256 ^ k) k = bytesOf n k := by
  have h := bytesOf_numOf (bytesOf n k)
  rwa [numOf_bytesOf, bytesOf_length] at h

theorem bytes_eq {n m k : Nat} (h : n % 256 ^ k = m % 256 ^ k) : bytesOf n k = bytesOf m k := by
  rw [← bytesOf_mod n k, h, bytesOf_mod]

/-- from the state s to t some bytes were read -/
def R (s t : St) (c : List UInt8) : Prop := t.2 = 0 → s.2 = 0 ∧ s.1 = c ++ t.1

theorem R.trans {s t u : St} {c d : List UInt8} (h : R s t c) (k : R t u d) : R s u (c ++ d) := fun hu => by
  obtain ⟨ht, et⟩ := k hu
  obtain ⟨hs, es⟩ := h ht
  exact ⟨hs, by rw [es, et, List.append_assoc]⟩

theorem R.is {s t : St} {c d : List UInt8} (h : R s t c) (e : c = d) : R s t d := by subst e; exact h

theorem fail_ne (s : St) (e : Int) (he : e ≠ 0) : (failS s e).2 ≠ 0 := by
  unfold failS
  split
  · exact he
  · assumption

theorem take_R (s : St) (n : Nat) (h : (takeS s n).2.2 = 0) : s.2 = 0 ∧ s.1 = (takeS s n).1 ++ (takeS s n).2.1 ∧ (takeS s n).1.length = n := by
  obtain ⟨l, e⟩ := s
  by_cases he : e = 0
  · subst he
    by_cases hl : l.length < n
    · rw [takeS_short hl] at h; simp at h
    · rw [takeS_ok (by omega)]
      exact ⟨rfl, by simp, by simp; omega⟩
  · rw [takeS_err n he] at h; exact absurd h he

theorem num_R0 (s : St) (k : Nat) : R s (numS s k).2 (bytesOf (numS s k).1 k) := fun h => by
  obtain ⟨h1, h2, h3⟩ := take_R s k h
  refine ⟨h1, ?_⟩
  have e := bytesOf_numOf (takeS s k).1
  rw [h3] at e
  show s.1 = bytesOf (numOf (takeS s k).1) k ++ (takeS s k).2.1
  rw [e]; exact h2

theorem half_R (s : St) : R s (numS s 2).2 (bytesOf (Rp.u64 ((numS s 2).1 : Int)) 2) := by
  have hn := numS_lt s 2
  rw [u64_nat _ (by omega)]
  exact num_R0 s 2

theorem small_R (s : St) : R s (smlE s) (bytesOf (Rp.u64 (smlV s 0)) 2) := by
  refine (num_R0 s 2).is ?_
  have hn := numS_lt s 2
  unfold smlV
  generalize (numS s 2).1 = n at hn ⊢
  refine bytes_eq ?_
  have hu := u64_cast (small16 n)
  by_cases hc : 32768 ≤ n
  · rw [show small16 n = (n : Int) - 65536 from if_pos hc] at hu ⊢; omega
  · rw [show small16 n = (n : Int) from if_neg hc] at hu ⊢; omega

theorem fix_R (s : St) : R s (fixS s).2 (bytesOf (Rp.u64 (fixS s).1) 5) := by
  have hn := numS_lt s 5
  have h0 := num_R0 s 5
  unfold fixS
  by_cases hc : sign40 (numS s 5).1 < -2147483648 ∨ 2147483648 < sign40 (numS s 5).1
  · rw [if_pos hc]
    exact fun h => absurd h (fail_ne _ 33 (by decide))
  · rw [if_neg hc]
    refine h0.is ?_
    generalize (numS s 5).1 = n at hn ⊢
    refine bytes_eq ?_
    have hu := u64_cast (sign40 n)
    show n % 256 ^ 5 = Rp.u64 (sign40 n) % 256 ^ 5
    by_cases hc : 549755813888 ≤ n
    · rw [show sign40 n = (n : Int) - 1099511627776 from if_pos hc] at hu ⊢; omega
    · rw [show sign40 n = (n : Int) from if_neg hc] at hu ⊢; omega

theorem three_R (s : St) : R s (triE s) (numsOf 5 [triV s 0, triV s 1, triV s 2]) := fun h => by
  have h' : (fixK s 3).2 = 0 := h
  have e : (threeS s).1 = fixV s := by unfold threeS; rw [if_neg (by simp [h'])]
  have k : R s (fixK s 3) (bytesOf (Rp.u64 (fixV s 0)) 5 ++ bytesOf (Rp.u64 (fixV s 1)) 5 ++ bytesOf (Rp.u64 (fixV s 2)) 5) := ((fix_R (fixK s 0)).trans (fix_R (fixK s 1))).trans (fix_R (fixK s 2))
  unfold triV
  rw [e]
  exact (k.is (by simp only [nums_cons, numsOf_nil, List.append_nil, List.append_assoc])) h

/-- some bytes one behind the other -/
def catTo (c : Nat → List UInt8) : Nat → List UInt8
  | 0 => []
  | k + 1 => catTo c k ++ c k

theorem catTo_is {A c : Nat → List UInt8} (h0 : A 0 = []) (hA : ∀ k, A (k + 1) = A k ++ c k) : ∀ k, catTo c k = A k
  | 0 => h0.symm
  | k + 1 => by rw [catTo, catTo_is h0 hA k, hA]

theorem it_R {e : St → St} {c : St → List UInt8} (he : ∀ s, R s (e s) (c s)) (s : St) : ∀ k, R s (itS e s k) (catTo (fun i => c (itS e s i)) k)
  | 0 => fun h => ⟨h, rfl⟩
  | k + 1 => (it_R he s k).trans (he (itS e s k))

theorem vecs_R (s : St) (n : Nat) : R s (itS triE s n) (vecsOf (itV triE triV 3 s) n) :=
  (it_R three_R s n).is (catTo_is rfl (fun k => by
    show _ ++ _ = _
    rw [show itV triE triV 3 s (k * 3) = triV (itS triE s k) 0 from itV_at triE triV 3 s k 0 (by omega), itV_at triE triV 3 s k 1 (by omega), itV_at triE triV 3 s k 2 (by omega)]) n)

theorem fixs_R (s : St) (n : Nat) : R s (itS oneE s n) (bts 5 (itV oneE oneV 1 s) n) :=
  (it_R (e := oneE) (c := fun s => bytesOf (Rp.u64 (oneV s 0)) 5) fix_R s n).is (catTo_is rfl (fun k => by
    show _ ++ _ = _
    have h := itV_at oneE oneV 1 s k 0 (by omega)
    rw [show k * 1 + 0 = k by omega] at h
    rw [h]) n)

theorem smalls_R (s : St) (n : Nat) : R s (itS smlE s n) (bts 2 (itV smlE smlV 1 s) n) :=
  (it_R small_R s n).is (catTo_is rfl (fun k => by
    show _ ++ _ = _
    have h := itV_at smlE smlV 1 s k 0 (by omega)
    rw [show k * 1 + 0 = k by omega] at h
    rw [h]) n)

theorem size_R (s : St) : R s (szS s) (numsOf 2 [fW s, fH s]) := by
  unfold szS fW fH
  by_cases h : okSz (szW s) (szH s)
  · rw [if_pos h, if_pos h, if_pos h]
    exact ((half_R s).trans (half_R (numS s 2).2)).is (by simp only [nums_cons, numsOf_nil, List.append_nil]; rfl)
  · rw [if_neg h]
    exact fun h => absurd h (fail_ne _ 10 (by decide))

theorem sheet_R (s : St) : R s (fT0 s) (sheetB (fW s) (fH s) (fN s) (fF s).L) := (size_R s).trans (vecs_R (szS s) (fN s))

theorem film_R (s : St) : R s (fT5 s) (filmB (fF s)) :=
  (((((sheet_R s).trans (fixs_R (fT0 s) (fN s))).trans (vecs_R (fT1 s) (fN s))).trans (vecs_R (fT2 s) (fN s))).trans (smalls_R (fT3 s) (fN s))).trans (smalls_R (fT4 s) (fN s))

theorem end_R {s t : St} {c : List UInt8} (h : R s t c) (he : (endS t).2 = 0) : s.1 = c := by
  unfold endS at he
  by_cases hl : 0 < leftS t
  · rw [if_pos hl] at he; exact absurd he (fail_ne _ 10 (by decide))
  · rw [if_neg hl] at he
    have h1 := (h he).2
    have h2 : t.1 = [] := by
      unfold leftS at hl
      rw [if_neg (by simp [he])] at hl
      exact List.eq_nil_of_length_eq_zero (by omega)
    rw [h2, List.append_nil] at h1
    exact h1

theorem film_laid (l : List UInt8) (h : flE l = 0) : filmB (fF (l, 0)) = l := (end_R (film_R (l, 0)) h).symm

theorem sheet_laid (l : List UInt8) (h : shE l = 0) : sheetB (fW (l, 0)) (fH (l, 0)) (fN (l, 0)) (fF (l, 0)).L = l := (end_R (sheet_R (l, 0)) h).symm

def In (x : Int) : Prop := -2147483648 ≤ x ∧ x ≤ 2147483648

theorem in_held {x z : Int} (h : x = z) (hz : z = Pl.held x) : In x := by
  have a := Pl.held_lo x
  have b := Pl.held_hi x
  unfold In
  omega

theorem span_zero (L : Nat → Int) : span L 0 := fun j hj => absurd hj (by omega)

theorem span_one {L : Nat → Int} {k : Nat} (h : span L k) (hx : In (L k)) : span L (k + 1) := fun j hj => by
  by_cases e : j = k
  · subst e; exact hx
  · exact h j (by omega)

theorem span_three {L : Nat → Int} {k : Nat} (h : span L (k * 3)) (h0 : In (L (k * 3))) (h1 : In (L (k * 3 + 1))) (h2 : In (L (k * 3 + 2))) : span L ((k + 1) * 3) := by
  rw [show (k + 1) * 3 = k * 3 + 1 + 1 + 1 by omega]
  exact span_one (span_one (span_one h h0) h1) h2

set_option maxHeartbeats 16000000 in
set_option maxRecDepth 100000 in
theorem held_letters (W H : Int) (al ad an ab ax af : Option Addr) (cl cd cn cb cx cf nl nd nn nb ns nf : Nat) (L D N B S F : Nat → Int) (w : World) (hl : Rw 3 w al nl L) (hd : Rw 1 w ad nd D) (hn : Rw 3 w an nn N) (hb : Rw 3 w ab nb B) (bl : nl * 24 ≤ 140737488351232) (bd : nd * 8 ≤ 140737488351232) (bn : nn * 24 ≤ 140737488351232) (bb : nb * 24 ≤ 140737488351232) : Calls Try.prog 28 #[.agg #[.int .i64 W, .int .i64 H, .slice al nl cl, .slice ad nd cd, .slice an nn cn, .slice ab nb cb, .slice ax ns cx, .slice af nf cf]] w fun e' w' => (∃ t : Bool, e' = .returned (.bool t) ∧ (t = true → SpanF (⟨W, H, nl, nd, nn, nb, ns, nf, L, D, N, B, S, F⟩ : Flm)) ∧ Below w.heap.size w w') := by
  have HL_ := Lib.hid hl
  clear hl
  have HD_ := Lib.hid hd
  clear hd
  have HN_ := Lib.hid hn
  clear hn
  have HB_ := Lib.hid hb
  clear hb
  go_enter Try.func28, Try.ntmps28
  go_upto_region 1 with fail
  have hR := Au.rows1 w (.cells #[.int .i64 W, .int .i64 H, .slice al nl cl, .slice ad nd cd, .slice an nn cn, .slice ab nb cb, .slice ax ns cx, .slice af nf cf] 29)
  have HUx := Ve.below_n1 w (.cells #[.int .i64 W, .int .i64 H, .slice al nl cl, .slice ad nd cd, .slice an nn cn, .slice ab nb cb, .slice ax ns cx, .slice af nf cf] 29)
  obtain ⟨y0, hy0⟩ : ∃ y0, w.alloc (.cells #[.int .i64 W, .int .i64 H, .slice al nl cl, .slice ad nd cd, .slice an nn cn, .slice ab nb cb, .slice ax ns cx, .slice af nf cf] 29) = y0 := ⟨_, rfl⟩
  rw [hy0] at hR HUx ⊢
  clear hy0
  have HU0 := Lib.hid HUx
  clear HUx
  have hr0_0 := hR
  clear hR
  have c0_0 := cell_of_row _ _ 0 _ _ _ hr0_0
  have c0_1 := cell_of_row _ _ 1 _ _ _ hr0_0
  have c0_2 := cell_of_row _ _ 2 _ _ _ hr0_0
  have c0_3 := cell_of_row _ _ 3 _ _ _ hr0_0
  have c0_4 := cell_of_row _ _ 4 _ _ _ hr0_0
  have c0_5 := cell_of_row _ _ 5 _ _ _ hr0_0
  have c0_6 := cell_of_row _ _ 6 _ _ _ hr0_0
  have c0_7 := cell_of_row _ _ 7 _ _ _ hr0_0
  simp at c0_0 c0_1 c0_2 c0_3 c0_4 c0_5 c0_6 c0_7
  have HW := Lib.hid (Below.refl y0.heap.size y0)
  go_wp2_with fail
  clear c0_0 c0_1 c0_2 c0_3 c0_4 c0_5 c0_6 c0_7
  go_loopw [18] (fun ix wr => ∃ k : Nat, k ≤ nd ∧ ix = .int .i64 k ∧ Hid (span D k) ∧ Hid (Below y0.heap.size y0 wr)) (fun ix _ => nd - (intOf ix).toNat)
  case atStart => exact ⟨0, Nat.zero_le _, rfl, Lib.hid (span_zero _), HW⟩
  case round =>
    clear HW
    obtain ⟨k1, hk1, rfl, HS1, HW⟩ := hrel
    have hww := HU0.out.trans (HW.out.mono HU0.out.size)
    by_cases hlt : k1 < nd
    · have hlt' : (k1 : Int) < nd := by omega
      obtain ⟨sb, so, hsa, e0⟩ := (HD_.out.on hww).at1 hlt
      subst hsa
      obtain ⟨x0, hx0⟩ : ∃ x, x = D k1 := ⟨_, rfl⟩
      rw [← hx0] at e0
      have HX0 := Lib.hid hx0
      clear hx0
      obtain ⟨z, hz⟩ : ∃ z, z = Pl.held x0 := ⟨_, rfl⟩
      have HZ : ∀ W : World, Calls Try.prog 51 #[.int .i64 x0] W (fun e w' => e = .returned (.int .i64 z) ∧ W = w') := fun W => by rw [hz]; exact Wa.held_any x0 W
      by_cases hxy : x0 = z
      · have HIN := Lib.hid (in_held hxy hz)
        clear hz
        subst hxy
        go_wp2_with (go_at_call 51; refine (HZ _).mono ?_; rintro e w' ⟨rfl, rfl⟩)
        have HT := Lib.hid (show span D (k1 + 1) from span_one HS1.out (by rw [← HX0.out]; exact HIN.out))
        go_roundw
        case rel => exact ⟨k1 + 1, by omega, by go_num, HT, HW⟩
        case measure => simp [intOf]; omega
      · clear hz
        go_wp2_with (go_at_call 51; refine (HZ _).mono ?_; rintro e w' ⟨rfl, rfl⟩)
        exact bodyPost_ret (v := .bool false) (by simp [results, Try.results28, go_sem]) rfl ⟨false, rfl, fun h => absurd h (by decide), hww⟩
    · have hge : ¬ (k1 : Int) < nd := by omega
      have HSPD := Lib.hid (show span D nd by rw [← show k1 = nd by omega]; exact HS1.out)
      clear hlt
      have d1 := cell_of_row _ _ 2 _ _ _ ((HW.out.block _ (lt_heap hr0_0)).trans hr0_0)
      simp at d1
      have d2 := cell_of_row _ _ 5 _ _ _ ((HW.out.block _ (lt_heap hr0_0)).trans hr0_0)
      simp at d2
      go_wp2_with fail
      go_loopw [33] (fun ix wr => ∃ k : Int, (k = 0 ∨ k = 1 ∨ k = 2) ∧ ix = .int .i64 k ∧ Hid (1 ≤ k → span L (nl * 3)) ∧ Hid (2 ≤ k → span B (nb * 3)) ∧ Hid (Below y0.heap.size y0 wr)) (fun ix _ => 2 - (intOf ix).toNat)
      case atStart => exact ⟨0, .inl rfl, rfl, Lib.hid (fun h => absurd h (by omega)), Lib.hid (fun h => absurd h (by omega)), HW⟩
      case round =>
        clear HW hww d1 d2
        obtain ⟨k8, hk8, rfl, HQ1, HQ2, HW⟩ := hrel
        have hww := HU0.out.trans (HW.out.mono HU0.out.size)
        rcases hk8 with hk8 | hk8 | hk8
        · subst hk8
          have HIX : ∀ W : World, (Instr.index 105 (.agg #[.slice al nl cl, .slice ab nb cb]) (.int .i64 0)).run Try.prog W = .ok (.slice al nl cl) W := fun W => by simp [Instr.index, go_sem]
          go_wp2_with fail
          go_loopw [38] (fun ix wr => ∃ k : Nat, k ≤ nl ∧ ix = .int .i64 k ∧ Hid (span L (k * 3)) ∧ Hid (Below y0.heap.size y0 wr)) (fun ix _ => nl - (intOf ix).toNat)
          case atStart => exact ⟨0, Nat.zero_le _, rfl, Lib.hid (by rw [Nat.zero_mul]; exact span_zero _), HW⟩
          case round =>
            clear HW
            obtain ⟨k2, hk2, rfl, HS2, HW⟩ := hrel
            have hww := HU0.out.trans (HW.out.mono HU0.out.size)
            by_cases hlt : k2 < nl
            · have hlt' : (k2 : Int) < nl := by omega
              obtain ⟨sb, so, hsa, e0, e1, e2⟩ := (HL_.out.on hww).at3 hlt
              subst hsa
              obtain ⟨x0, hx0⟩ : ∃ x, x = L (k2 * 3) := ⟨_, rfl⟩
              rw [← hx0] at e0
              have HX0 := Lib.hid hx0
              clear hx0
              obtain ⟨x1, hx1⟩ : ∃ x, x = L (k2 * 3 + 1) := ⟨_, rfl⟩
              rw [← hx1] at e1
              have HX1 := Lib.hid hx1
              clear hx1
              obtain ⟨x2, hx2⟩ : ∃ x, x = L (k2 * 3 + 2) := ⟨_, rfl⟩
              rw [← hx2] at e2
              have HX2 := Lib.hid hx2
              clear hx2
              go_wp2_with fail
              go_loopw [43] (fun ix wr => ∃ k : Int, (k = 0 ∨ k = 1 ∨ k = 2 ∨ k = 3) ∧ ix = .int .i64 k ∧ Hid (1 ≤ k → In x0) ∧ Hid (2 ≤ k → In x1) ∧ Hid (3 ≤ k → In x2) ∧ Hid (Below y0.heap.size y0 wr)) (fun ix _ => 3 - (intOf ix).toNat)
              case atStart => exact ⟨0, .inl rfl, rfl, Lib.hid (fun h => absurd h (by omega)), Lib.hid (fun h => absurd h (by omega)), Lib.hid (fun h => absurd h (by omega)), Lib.hid (HW.out.trans ((Ve.below_n1 _ _).mono HW.out.size))⟩
              case round =>
                clear HW hww e0 e1 e2
                obtain ⟨k9, hk9, rfl, HI0, HI1, HI2, HW⟩ := hrel
                have hww := HU0.out.trans (HW.out.mono HU0.out.size)
                rcases hk9 with hk9 | hk9 | hk9 | hk9
                · subst hk9
                  have HJX : ∀ W : World, (Instr.index 75 (.agg #[.int .i64 x0, .int .i64 x1, .int .i64 x2]) (.int .i64 0)).run Try.prog W = .ok (.int .i64 x0) W := fun W => by simp [Instr.index, go_sem]
                  obtain ⟨z, hz⟩ : ∃ z, z = Pl.held x0 := ⟨_, rfl⟩
                  have HZ : ∀ W : World, Calls Try.prog 51 #[.int .i64 x0] W (fun e w' => e = .returned (.int .i64 z) ∧ W = w') := fun W => by rw [hz]; exact Wa.held_any x0 W
                  by_cases hxy : x0 = z
                  · have HIN := Lib.hid (in_held hxy hz)
                    clear hz
                    subst hxy
                    go_wp2_with (go_at_call 51; refine (HZ _).mono ?_; rintro e w' ⟨rfl, rfl⟩)
                    go_roundw
                    case rel => exact ⟨1, by omega, by first | rfl | go_num, Lib.hid (fun _ => HIN.out), Lib.hid (fun h => absurd h (by omega)), Lib.hid (fun h => absurd h (by omega)), HW⟩
                    case measure => simp [intOf]
                  · clear hz
                    go_wp2_with (go_at_call 51; refine (HZ _).mono ?_; rintro e w' ⟨rfl, rfl⟩)
                    exact bodyPost_ret (v := .bool false) (by simp [results, Try.results28, go_sem]) rfl ⟨false, rfl, fun h => absurd h (by decide), hww⟩
                · subst hk9
                  have HJX : ∀ W : World, (Instr.index 75 (.agg #[.int .i64 x0, .int .i64 x1, .int .i64 x2]) (.int .i64 1)).run Try.prog W = .ok (.int .i64 x1) W := fun W => by simp [Instr.index, go_sem]
                  obtain ⟨z, hz⟩ : ∃ z, z = Pl.held x1 := ⟨_, rfl⟩
                  have HZ : ∀ W : World, Calls Try.prog 51 #[.int .i64 x1] W (fun e w' => e = .returned (.int .i64 z) ∧ W = w') := fun W => by rw [hz]; exact Wa.held_any x1 W
                  by_cases hxy : x1 = z
                  · have HIN := Lib.hid (in_held hxy hz)
                    clear hz
                    subst hxy
                    go_wp2_with (go_at_call 51; refine (HZ _).mono ?_; rintro e w' ⟨rfl, rfl⟩)
                    go_roundw
                    case rel => exact ⟨2, by omega, by first | rfl | go_num, Lib.hid (fun _ => HI0.out (by omega)), Lib.hid (fun _ => HIN.out), Lib.hid (fun h => absurd h (by omega)), HW⟩
                    case measure => simp [intOf]
                  · clear hz
                    go_wp2_with (go_at_call 51; refine (HZ _).mono ?_; rintro e w' ⟨rfl, rfl⟩)
                    exact bodyPost_ret (v := .bool false) (by simp [results, Try.results28, go_sem]) rfl ⟨false, rfl, fun h => absurd h (by decide), hww⟩
                · subst hk9
                  have HJX : ∀ W : World, (Instr.index 75 (.agg #[.int .i64 x0, .int .i64 x1, .int .i64 x2]) (.int .i64 2)).run Try.prog W = .ok (.int .i64 x2) W := fun W => by simp [Instr.index, go_sem]
                  obtain ⟨z, hz⟩ : ∃ z, z = Pl.held x2 := ⟨_, rfl⟩
                  have HZ : ∀ W : World, Calls Try.prog 51 #[.int .i64 x2] W (fun e w' => e = .returned (.int .i64 z) ∧ W = w') := fun W => by rw [hz]; exact Wa.held_any x2 W
                  by_cases hxy : x2 = z
                  · have HIN := Lib.hid (in_held hxy hz)
                    clear hz
                    subst hxy
                    go_wp2_with (go_at_call 51; refine (HZ _).mono ?_; rintro e w' ⟨rfl, rfl⟩)
                    go_roundw
                    case rel => exact ⟨3, by omega, by first | rfl | go_num, Lib.hid (fun _ => HI0.out (by omega)), Lib.hid (fun _ => HI1.out (by omega)), Lib.hid (fun _ => HIN.out), HW⟩
                    case measure => simp [intOf]
                  · clear hz
                    go_wp2_with (go_at_call 51; refine (HZ _).mono ?_; rintro e w' ⟨rfl, rfl⟩)
                    exact bodyPost_ret (v := .bool false) (by simp [results, Try.results28, go_sem]) rfl ⟨false, rfl, fun h => absurd h (by decide), hww⟩
                · subst hk9
                  have HT := Lib.hid (show span L ((k2 + 1) * 3) from span_three HS2.out (by rw [← HX0.out]; exact HI0.out (by omega)) (by rw [← HX1.out]; exact HI1.out (by omega)) (by rw [← HX2.out]; exact HI2.out (by omega)))
                  go_wp2_with fail
                  go_roundw
                  case rel => exact ⟨k2 + 1, by omega, by go_num, HT, HW⟩
                  case measure => simp [intOf]; omega
            · have hge : ¬ (k2 : Int) < nl := by omega
              have HSPL := Lib.hid (show span L (nl * 3) by rw [← show k2 = nl by omega]; exact HS2.out)
              clear hlt
              go_wp2_with fail
              go_roundw
              case rel => exact ⟨1, by omega, by first | rfl | go_num, Lib.hid (fun _ => HSPL.out), Lib.hid (fun h => absurd h (by omega)), HW⟩
              case measure => simp [intOf]
        · subst hk8
          have HIX : ∀ W : World, (Instr.index 105 (.agg #[.slice al nl cl, .slice ab nb cb]) (.int .i64 1)).run Try.prog W = .ok (.slice ab nb cb) W := fun W => by simp [Instr.index, go_sem]
          go_wp2_with fail
          go_loopw [38] (fun ix wr => ∃ k : Nat, k ≤ nb ∧ ix = .int .i64 k ∧ Hid (span B (k * 3)) ∧ Hid (Below y0.heap.size y0 wr)) (fun ix _ => nb - (intOf ix).toNat)
          case atStart => exact ⟨0, Nat.zero_le _, rfl, Lib.hid (by rw [Nat.zero_mul]; exact span_zero _), HW⟩
          case round =>
            clear HW
            obtain ⟨k3, hk3, rfl, HS3, HW⟩ := hrel
            have hww := HU0.out.trans (HW.out.mono HU0.out.size)
            by_cases hlt : k3 < nb
            · have hlt' : (k3 : Int) < nb := by omega
              obtain ⟨sb, so, hsa, e0, e1, e2⟩ := (HB_.out.on hww).at3 hlt
              subst hsa
              obtain ⟨x0, hx0⟩ : ∃ x, x = B (k3 * 3) := ⟨_, rfl⟩
              rw [← hx0] at e0
              have HX0 := Lib.hid hx0
              clear hx0
              obtain ⟨x1, hx1⟩ : ∃ x, x = B (k3 * 3 + 1) := ⟨_, rfl⟩
              rw [← hx1] at e1
              have HX1 := Lib.hid hx1
              clear hx1
              obtain ⟨x2, hx2⟩ : ∃ x, x = B (k3 * 3 + 2) := ⟨_, rfl⟩
              rw [← hx2] at e2
              have HX2 := Lib.hid hx2
              clear hx2
              go_wp2_with fail
              go_loopw [43] (fun ix wr => ∃ k : Int, (k = 0 ∨ k = 1 ∨ k = 2 ∨ k = 3) ∧ ix = .int .i64 k ∧ Hid (1 ≤ k → In x0) ∧ Hid (2 ≤ k → In x1) ∧ Hid (3 ≤ k → In x2) ∧ Hid (Below y0.heap.size y0 wr)) (fun ix _ => 3 - (intOf ix).toNat)
              case atStart => exact ⟨0, .inl rfl, rfl, Lib.hid (fun h => absurd h (by omega)), Lib.hid (fun h => absurd h (by omega)), Lib.hid (fun h => absurd h (by omega)), Lib.hid (HW.out.trans ((Ve.below_n1 _ _).mono HW.out.size))⟩
              case round =>
                clear HW hww e0 e1 e2
                obtain ⟨k9, hk9, rfl, HI0, HI1, HI2, HW⟩ := hrel
                have hww := HU0.out.trans (HW.out.mono HU0.out.size)
                rcases hk9 with hk9 | hk9 | hk9 | hk9
                · subst hk9
                  have HJX : ∀ W : World, (Instr.index 75 (.agg #[.int .i64 x0, .int .i64 x1, .int .i64 x2]) (.int .i64 0)).run Try.prog W = .ok (.int .i64 x0) W := fun W => by simp [Instr.index, go_sem]
                  obtain ⟨z, hz⟩ : ∃ z, z = Pl.held x0 := ⟨_, rfl⟩
                  have HZ : ∀ W : World, Calls Try.prog 51 #[.int .i64 x0] W (fun e w' => e = .returned (.int .i64 z) ∧ W = w') := fun W => by rw [hz]; exact Wa.held_any x0 W
                  by_cases hxy : x0 = z
                  · have HIN := Lib.hid (in_held hxy hz)
                    clear hz
                    subst hxy
                    go_wp2_with (go_at_call 51; refine (HZ _).mono ?_; rintro e w' ⟨rfl, rfl⟩)
                    go_roundw
                    case rel => exact ⟨1, by omega, by first | rfl | go_num, Lib.hid (fun _ => HIN.out), Lib.hid (fun h => absurd h (by omega)), Lib.hid (fun h => absurd h (by omega)), HW⟩
                    case measure => simp [intOf]
                  · clear hz
                    go_wp2_with (go_at_call 51; refine (HZ _).mono ?_; rintro e w' ⟨rfl, rfl⟩)
                    exact bodyPost_ret (v := .bool false) (by simp [results, Try.results28, go_sem]) rfl ⟨false, rfl, fun h => absurd h (by decide), hww⟩
                · subst hk9
                  have HJX : ∀ W : World, (Instr.index 75 (.agg #[.int .i64 x0, .int .i64 x1, .int .i64 x2]) (.int .i64 1)).run Try.prog W = .ok (.int .i64 x1) W := fun W => by simp [Instr.index, go_sem]
                  obtain ⟨z, hz⟩ : ∃ z, z = Pl.held x1 := ⟨_, rfl⟩
                  have HZ : ∀ W : World, Calls Try.prog 51 #[.int .i64 x1] W (fun e w' => e = .returned (.int .i64 z) ∧ W = w') := fun W => by rw [hz]; exact Wa.held_any x1 W
                  by_cases hxy : x1 = z
                  · have HIN := Lib.hid (in_held hxy hz)
                    clear hz
                    subst hxy
                    go_wp2_with (go_at_call 51; refine (HZ _).mono ?_; rintro e w' ⟨rfl, rfl⟩)
                    go_roundw
                    case rel => exact ⟨2, by omega, by first | rfl | go_num, Lib.hid (fun _ => HI0.out (by omega)), Lib.hid (fun _ => HIN.out), Lib.hid (fun h => absurd h (by omega)), HW⟩
                    case measure => simp [intOf]
                  · clear hz
                    go_wp2_with (go_at_call 51; refine (HZ _).mono ?_; rintro e w' ⟨rfl, rfl⟩)
                    exact bodyPost_ret (v := .bool false) (by simp [results, Try.results28, go_sem]) rfl ⟨false, rfl, fun h => absurd h (by decide), hww⟩
                · subst hk9
                  have HJX : ∀ W : World, (Instr.index 75 (.agg #[.int .i64 x0, .int .i64 x1, .int .i64 x2]) (.int .i64 2)).run Try.prog W = .ok (.int .i64 x2) W := fun W => by simp [Instr.index, go_sem]
                  obtain ⟨z, hz⟩ : ∃ z, z = Pl.held x2 := ⟨_, rfl⟩
                  have HZ : ∀ W : World, Calls Try.prog 51 #[.int .i64 x2] W (fun e w' => e = .returned (.int .i64 z) ∧ W = w') := fun W => by rw [hz]; exact Wa.held_any x2 W
                  by_cases hxy : x2 = z
                  · have HIN := Lib.hid (in_held hxy hz)
                    clear hz
                    subst hxy
                    go_wp2_with (go_at_call 51; refine (HZ _).mono ?_; rintro e w' ⟨rfl, rfl⟩)
                    go_roundw
                    case rel => exact ⟨3, by omega, by first | rfl | go_num, Lib.hid (fun _ => HI0.out (by omega)), Lib.hid (fun _ => HI1.out (by omega)), Lib.hid (fun _ => HIN.out), HW⟩
                    case measure => simp [intOf]
                  · clear hz
                    go_wp2_with (go_at_call 51; refine (HZ _).mono ?_; rintro e w' ⟨rfl, rfl⟩)
                    exact bodyPost_ret (v := .bool false) (by simp [results, Try.results28, go_sem]) rfl ⟨false, rfl, fun h => absurd h (by decide), hww⟩
                · subst hk9
                  have HT := Lib.hid (show span B ((k3 + 1) * 3) from span_three HS3.out (by rw [← HX0.out]; exact HI0.out (by omega)) (by rw [← HX1.out]; exact HI1.out (by omega)) (by rw [← HX2.out]; exact HI2.out (by omega)))
                  go_wp2_with fail
                  go_roundw
                  case rel => exact ⟨k3 + 1, by omega, by go_num, HT, HW⟩
                  case measure => simp [intOf]; omega
            · have hge : ¬ (k3 : Int) < nb := by omega
              have HSPB := Lib.hid (show span B (nb * 3) by rw [← show k3 = nb by omega]; exact HS3.out)
              clear hlt
              go_wp2_with fail
              go_roundw
              case rel => exact ⟨2, by omega, by first | rfl | go_num, Lib.hid (fun _ => HQ1.out (by omega)), Lib.hid (fun _ => HSPB.out), HW⟩
              case measure => simp [intOf]
        · subst hk8
          have d3 := cell_of_row _ _ 4 _ _ _ ((HW.out.block _ (lt_heap hr0_0)).trans hr0_0)
          simp at d3
          go_wp2_with fail
          go_loopw [56] (fun ix wr => ∃ k : Nat, k ≤ nn ∧ ix = .int .i64 k ∧ Hid (span N (k * 3)) ∧ Hid (Below y0.heap.size y0 wr)) (fun ix _ => nn - (intOf ix).toNat)
          case atStart => exact ⟨0, Nat.zero_le _, rfl, Lib.hid (by rw [Nat.zero_mul]; exact span_zero _), HW⟩
          case round =>
            clear HW
            obtain ⟨k4, hk4, rfl, HS4, HW⟩ := hrel
            have hww := HU0.out.trans (HW.out.mono HU0.out.size)
            by_cases hlt : k4 < nn
            · have hlt' : (k4 : Int) < nn := by omega
              obtain ⟨sb, so, hsa, e0, e1, e2⟩ := (HN_.out.on hww).at3 hlt
              subst hsa
              obtain ⟨x0, hx0⟩ : ∃ x, x = N (k4 * 3) := ⟨_, rfl⟩
              rw [← hx0] at e0
              have HX0 := Lib.hid hx0
              clear hx0
              obtain ⟨x1, hx1⟩ : ∃ x, x = N (k4 * 3 + 1) := ⟨_, rfl⟩
              rw [← hx1] at e1
              have HX1 := Lib.hid hx1
              clear hx1
              obtain ⟨x2, hx2⟩ : ∃ x, x = N (k4 * 3 + 2) := ⟨_, rfl⟩
              rw [← hx2] at e2
              have HX2 := Lib.hid hx2
              clear hx2
              go_wp2_with fail
              go_loopw [61] (fun ix wr => ∃ k : Int, (k = 0 ∨ k = 1 ∨ k = 2 ∨ k = 3) ∧ ix = .int .i64 k ∧ Hid (1 ≤ k → In x0) ∧ Hid (2 ≤ k → In x1) ∧ Hid (3 ≤ k → In x2) ∧ Hid (Below y0.heap.size y0 wr)) (fun ix _ => 3 - (intOf ix).toNat)
              case atStart => exact ⟨0, .inl rfl, rfl, Lib.hid (fun h => absurd h (by omega)), Lib.hid (fun h => absurd h (by omega)), Lib.hid (fun h => absurd h (by omega)), Lib.hid (HW.out.trans ((Ve.below_n1 _ _).mono HW.out.size))⟩
              case round =>
                clear HW hww e0 e1 e2
                obtain ⟨k9, hk9, rfl, HI0, HI1, HI2, HW⟩ := hrel
                have hww := HU0.out.trans (HW.out.mono HU0.out.size)
                rcases hk9 with hk9 | hk9 | hk9 | hk9
                · subst hk9
                  have HJX : ∀ W : World, (Instr.index 71 (.agg #[.int .i64 x0, .int .i64 x1, .int .i64 x2]) (.int .i64 0)).run Try.prog W = .ok (.int .i64 x0) W := fun W => by simp [Instr.index, go_sem]
                  obtain ⟨z, hz⟩ : ∃ z, z = Pl.held x0 := ⟨_, rfl⟩
                  have HZ : ∀ W : World, Calls Try.prog 51 #[.int .i64 x0] W (fun e w' => e = .returned (.int .i64 z) ∧ W = w') := fun W => by rw [hz]; exact Wa.held_any x0 W
                  by_cases hxy : x0 = z
                  · have HIN := Lib.hid (in_held hxy hz)
                    clear hz
                    subst hxy
                    go_wp2_with (go_at_call 51; refine (HZ _).mono ?_; rintro e w' ⟨rfl, rfl⟩)
                    go_roundw
                    case rel => exact ⟨1, by omega, by first | rfl | go_num, Lib.hid (fun _ => HIN.out), Lib.hid (fun h => absurd h (by omega)), Lib.hid (fun h => absurd h (by omega)), HW⟩
                    case measure => simp [intOf]
                  · clear hz
                    go_wp2_with (go_at_call 51; refine (HZ _).mono ?_; rintro e w' ⟨rfl, rfl⟩)
                    exact bodyPost_ret (v := .bool false) (by simp [results, Try.results28, go_sem]) rfl ⟨false, rfl, fun h => absurd h (by decide), hww⟩
                · subst hk9
                  have HJX : ∀ W : World, (Instr.index 71 (.agg #[.int .i64 x0, .int .i64 x1, .int .i64 x2]) (.int .i64 1)).run Try.prog W = .ok (.int .i64 x1) W := fun W => by simp [Instr.index, go_sem]
                  obtain ⟨z, hz⟩ : ∃ z, z = Pl.held x1 := ⟨_, rfl⟩
                  have HZ : ∀ W : World, Calls Try.prog 51 #[.int .i64 x1] W (fun e w' => e = .returned (.int .i64 z) ∧ W = w') := fun W => by rw [hz]; exact Wa.held_any x1 W
                  by_cases hxy : x1 = z
                  · have HIN := Lib.hid (in_held hxy hz)
                    clear hz
                    subst hxy
                    go_wp2_with (go_at_call 51; refine (HZ _).mono ?_; rintro e w' ⟨rfl, rfl⟩)
                    go_roundw
                    case rel => exact ⟨2, by omega, by first | rfl | go_num, Lib.hid (fun _ => HI0.out (by omega)), Lib.hid (fun _ => HIN.out), Lib.hid (fun h => absurd h (by omega)), HW⟩
                    case measure => simp [intOf]
                  · clear hz
                    go_wp2_with (go_at_call 51; refine (HZ _).mono ?_; rintro e w' ⟨rfl, rfl⟩)
                    exact bodyPost_ret (v := .bool false) (by simp [results, Try.results28, go_sem]) rfl ⟨false, rfl, fun h => absurd h (by decide), hww⟩
                · subst hk9
                  have HJX : ∀ W : World, (Instr.index 71 (.agg #[.int .i64 x0, .int .i64 x1, .int .i64 x2]) (.int .i64 2)).run Try.prog W = .ok (.int .i64 x2) W := fun W => by simp [Instr.index, go_sem]
                  obtain ⟨z, hz⟩ : ∃ z, z = Pl.held x2 := ⟨_, rfl⟩
                  have HZ : ∀ W : World, Calls Try.prog 51 #[.int .i64 x2] W (fun e w' => e = .returned (.int .i64 z) ∧ W = w') := fun W => by rw [hz]; exact Wa.held_any x2 W
                  by_cases hxy : x2 = z
                  · have HIN := Lib.hid (in_held hxy hz)
                    clear hz
                    subst hxy
                    go_wp2_with (go_at_call 51; refine (HZ _).mono ?_; rintro e w' ⟨rfl, rfl⟩)
                    go_roundw
                    case rel => exact ⟨3, by omega, by first | rfl | go_num, Lib.hid (fun _ => HI0.out (by omega)), Lib.hid (fun _ => HI1.out (by omega)), Lib.hid (fun _ => HIN.out), HW⟩
                    case measure => simp [intOf]
                  · clear hz
                    go_wp2_with (go_at_call 51; refine (HZ _).mono ?_; rintro e w' ⟨rfl, rfl⟩)
                    exact bodyPost_ret (v := .bool false) (by simp [results, Try.results28, go_sem]) rfl ⟨false, rfl, fun h => absurd h (by decide), hww⟩
                · subst hk9
                  have HT := Lib.hid (show span N ((k4 + 1) * 3) from span_three HS4.out (by rw [← HX0.out]; exact HI0.out (by omega)) (by rw [← HX1.out]; exact HI1.out (by omega)) (by rw [← HX2.out]; exact HI2.out (by omega)))
                  go_wp2_with fail
                  go_roundw
                  case rel => exact ⟨k4 + 1, by omega, by go_num, HT, HW⟩
                  case measure => simp [intOf]; omega
            · have hge : ¬ (k4 : Int) < nn := by omega
              have HSPN := Lib.hid (show span N (nn * 3) by rw [← show k4 = nn by omega]; exact HS4.out)
              clear hlt
              go_wp2
              exact bodyPost_ret (v := .bool true) (by simp [results, Try.results28, go_sem]) rfl (.inr ⟨rfl, ⟨HQ1.out (by omega), HSPD.out, HSPN.out, HQ2.out (by omega)⟩, hww⟩)

theorem held_film (f : Flm) (p : Pl) (w : World) (h : FAt w f p) (bl : f.nl * 24 ≤ 140737488351232) (bd : f.nd * 8 ≤ 140737488351232) (bn : f.nn * 24 ≤ 140737488351232) (bb : f.nb * 24 ≤ 140737488351232) :
    Calls Try.prog 28 #[.agg (FC f p)] w fun e' w' => (∃ t : Bool, e' = .returned (.bool t) ∧ (t = true → SpanF f) ∧ Below w.heap.size w w') := by
  obtain ⟨W, H, nl, nd, nn, nb, ns, nf, L, D, N, B, S, F⟩ := f
  obtain ⟨al, cl, ad, cd, an, cn, ab, cb, ax, cx, af, cf⟩ := p
  obtain ⟨h1, h2, h3, h4, h5, h6⟩ := h
  exact held_letters W H al ad an ab ax af cl cd cn cb cx cf nl nd nn nb ns nf L D N B S F w h1 h2 h3 h4 bl bd bn bb

end Go.Proofs.Ytgkfoiekminfmaa.Fm
