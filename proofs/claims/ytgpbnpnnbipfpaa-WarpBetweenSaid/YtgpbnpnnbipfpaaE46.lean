/- Films: a pixel's past as one statement, by both sides. -/
import Derived.Test.YtgpbnpnnbipfpaaE45
namespace Go.Proofs.Ytgpbnpnnbipfpaa.Fm
open Go Go.RowKit Go.Proofs.Ytgpbnpnnbipfpaa Go.Proofs.Ytgpbnpnnbipfpaa.Rp Go.Proofs.Ytgpbnpnnbipfpaa.Re Go.Proofs.Ytgpbnpnnbipfpaa.Au Go.Proofs.Ytgpbnpnnbipfpaa.Jw
set_option linter.unusedVariables false
set_option linter.unusedSimpArgs false

theorem past_any (f g : Flm) (p q : Pl) (w : World) (bn bw i : Nat) (hn : w.heap[bn]? = some (.cells (FC f p) 40 (0, 0))) (hw : w.heap[bw]? = some (.cells (FC g q) 40 (0, 0))) (hf : FAt w f p) (hg : FAt w g q) (of : okF f) (og : okF g) (hi : i < f.nf) :
    Calls Try.prog 25 #[.pointer (some ⟨bn, 0, none⟩), .pointer (some ⟨bw, 0, none⟩), .int .i64 i] w fun e w' => e = .returned (.tuple #[.int .i64 (if hasPast f g i then f.F i else 0), .bool (decide (hasPast f g i))]) ∧ Below w.heap.size w w' := by
  obtain ⟨W, H, nl, nd, nn, nb, ns, nf, L, D, N, B, S, F⟩ := f
  obtain ⟨W2, H2, nl2, nd2, nn2, nb2, ns2, nf2, L2, D2, N2, B2, S2, F2⟩ := g
  obtain ⟨al, cl, ad, cd, an, cn, ab, cb, ax, cx, af, cf⟩ := p
  obtain ⟨al2, cl2, ad2, cd2, an2, cn2, ab2, cb2, ax2, cx2, af2, cf2⟩ := q
  have q1 := of.2.2.1
  have q2 := of.2.2.2.2.1.1
  have q3 := of.2.2.2.2.2.1
  have p1 := og.2.2.1
  have p2 := og.2.2.2.2.1.1
  have g1 := hf.n
  have g2 := hf.s
  have g3 := hf.f
  have k1 := hg.n
  have k2 := hg.s
  simp only [] at q1 q2 q3 p1 p2 g1 g2 g3 k1 k2 hi
  have e1 : ns = nf := by omega
  have e2 : nn = nf := by omega
  have e3 : nn2 = ns2 := by omega
  obtain ⟨fb, fo, rfl, eF⟩ := g3.at1 hi
  by_cases h1 : F i < 0
  · have hp : ¬ hasPast (⟨W, H, nl, nd, nn, nb, ns, nf, L, D, N, B, S, F⟩ : Flm) ⟨W2, H2, nl2, nd2, nn2, nb2, ns2, nf2, L2, D2, N2, B2, S2, F2⟩ i := fun h => absurd h.1 (by simp only []; omega)
    rw [if_neg hp, decide_eq_false hp]
    exact past_neg _ _ _ _ _ _ _ _ _ _ _ _ _ _ _ _ _ _ _ _ _ _ _ _ _ _ _ _ _ _ _ _ _ _ _ _ _ _ _ _ _ _ _ (Below.refl _ _) _ _ hn hw _ hi e1 e2 _ h1 eF
  obtain ⟨k, hk⟩ : ∃ k : Nat, F i = k := ⟨(F i).toNat, by omega⟩
  have hkt : (F i).toNat = k := by omega
  rw [hk] at eF
  by_cases h2 : k < ns2
  case neg =>
    have hp : ¬ hasPast (⟨W, H, nl, nd, nn, nb, ns, nf, L, D, N, B, S, F⟩ : Flm) ⟨W2, H2, nl2, nd2, nn2, nb2, ns2, nf2, L2, D2, N2, B2, S2, F2⟩ i := fun h => absurd h.2.1 (by simp only []; omega)
    rw [if_neg hp, decide_eq_false hp]
    exact past_far _ _ _ _ _ _ _ _ _ _ _ _ _ _ _ _ _ _ _ _ _ _ _ _ _ _ _ _ _ _ _ _ _ _ _ _ _ _ _ _ _ _ _ (Below.refl _ _) _ _ hn hw _ hi e1 e2 _ eF h2 _ p2.symm (fun W => pix_ok W2 H2 og.1.1 W)
  obtain ⟨xb, xo, rfl, eS⟩ := g2.at1 (k := i) (by omega)
  obtain ⟨xb2, xo2, rfl, eS2⟩ := k2.at1 h2
  by_cases h3 : S i = S2 k
  case neg =>
    have hp : ¬ hasPast (⟨W, H, nl, nd, nn, nb, ns, nf, L, D, N, B, S, F⟩ : Flm) ⟨W2, H2, nl2, nd2, nn2, nb2, ns2, nf2, L2, D2, N2, B2, S2, F2⟩ i := fun h => absurd h.2.2.1 (by simp only []; rw [hkt]; exact h3)
    rw [if_neg hp, decide_eq_false hp]
    exact past_shape _ _ _ _ _ _ _ _ _ _ _ _ _ _ _ _ _ _ _ _ _ _ _ _ _ _ _ _ _ _ _ _ _ _ _ _ _ _ _ _ _ _ _ _ _ (Below.refl _ _) _ _ hn hw _ hi e1 e2 _ eF h2 e3 _ _ eS eS2 h3 _ p2.symm (fun W => pix_ok W2 H2 og.1.1 W)
  obtain ⟨vb, vo, rfl, ea1, ea2, ea3⟩ := g1.at3 (k := i) (by omega)
  obtain ⟨vb2, vo2, rfl, eb1, eb2, eb3⟩ := k1.at3 (k := k) (by omega)
  by_cases h4 : ndot N N2 i k < 57344
  · have hp : ¬ hasPast (⟨W, H, nl, nd, nn, nb, ns, nf, L, D, N, B, S, F⟩ : Flm) ⟨W2, H2, nl2, nd2, nn2, nb2, ns2, nf2, L2, D2, N2, B2, S2, F2⟩ i := fun h => absurd h.2.2.2 (by simp only []; rw [hkt]; omega)
    rw [if_neg hp, decide_eq_false hp]
    exact past_dot _ _ _ _ _ _ _ _ _ _ _ _ _ _ _ _ _ _ _ _ _ _ _ _ _ _ _ _ _ _ _ _ _ _ _ _ _ _ _ _ _ _ _ _ _ _ _ (Below.refl _ _) _ _ hn hw _ hi e1 e2 _ eF h2 e3 _ _ eS eS2 h3 _ _ _ ea1 ea2 ea3 _ _ _ eb1 eb2 eb3 (ndot N N2 i k) h4 _ p2.symm (fun W => pix_ok W2 H2 og.1.1 W) (fun W => Ve.dot_any _ _ _ _ _ _ W)
  have hp : hasPast (⟨W, H, nl, nd, nn, nb, ns, nf, L, D, N, B, S, F⟩ : Flm) ⟨W2, H2, nl2, nd2, nn2, nb2, ns2, nf2, L2, D2, N2, B2, S2, F2⟩ i := ⟨by simp only []; omega, by simp only []; omega, by simp only []; rw [hkt]; exact h3, by simp only []; rw [hkt]; omega⟩
  rw [if_pos hp, decide_eq_true hp]
  simp only []
  rw [hk]
  exact past_yes _ _ _ _ _ _ _ _ _ _ _ _ _ _ _ _ _ _ _ _ _ _ _ _ _ _ _ _ _ _ _ _ _ _ _ _ _ _ _ _ _ _ _ _ _ _ _ (Below.refl _ _) _ _ hn hw _ hi e1 e2 _ eF h2 e3 _ _ eS eS2 h3 _ _ _ ea1 ea2 ea3 _ _ _ eb1 eb2 eb3 (ndot N N2 i k) h4 _ p2.symm (fun W => pix_ok W2 H2 og.1.1 W) (fun W => Ve.dot_any _ _ _ _ _ _ W)

theorem dpast_any (f g : Flm) (p q : Pl) (w : World) (i : Nat) (hf : FAt w f p) (hg : FAt w g q) (of : okF f) (og : okF g) (hi : i < f.nf) :
    Calls Try.prog 28 #[.agg (FC f p), .agg (FC g q), .int .i64 i] w fun e w' => e = .returned (.int .i64 (if hasPast f g i then f.F i else -1)) ∧ Below w.heap.size w w' := by
  obtain ⟨W, H, nl, nd, nn, nb, ns, nf, L, D, N, B, S, F⟩ := f
  obtain ⟨W2, H2, nl2, nd2, nn2, nb2, ns2, nf2, L2, D2, N2, B2, S2, F2⟩ := g
  obtain ⟨al, cl, ad, cd, an, cn, ab, cb, ax, cx, af, cf⟩ := p
  obtain ⟨al2, cl2, ad2, cd2, an2, cn2, ab2, cb2, ax2, cx2, af2, cf2⟩ := q
  have q1 := of.2.2.1
  have q2 := of.2.2.2.2.1.1
  have q3 := of.2.2.2.2.2.1
  have p1 := og.2.2.1
  have p2 := og.2.2.2.2.1.1
  have g1 := hf.n
  have g2 := hf.s
  have g3 := hf.f
  have k1 := hg.n
  have k2 := hg.s
  simp only [] at q1 q2 q3 p1 p2 g1 g2 g3 k1 k2 hi
  have e1 : ns = nf := by omega
  have e2 : nn = nf := by omega
  have e3 : nn2 = ns2 := by omega
  obtain ⟨fb, fo, rfl, eF⟩ := g3.at1 hi
  by_cases h1 : F i < 0
  · have hp : ¬ hasPast (⟨W, H, nl, nd, nn, nb, ns, nf, L, D, N, B, S, F⟩ : Flm) ⟨W2, H2, nl2, nd2, nn2, nb2, ns2, nf2, L2, D2, N2, B2, S2, F2⟩ i := fun h => absurd h.1 (by simp only []; omega)
    rw [if_neg hp]
    exact dpast_neg _ _ _ _ _ _ _ _ _ _ _ _ _ _ _ _ _ _ _ _ _ _ _ _ _ _ _ _ _ _ _ _ _ _ _ _ _ _ _ _ _ _ _ hi e1 e2 _ h1 eF
  obtain ⟨k, hk⟩ : ∃ k : Nat, F i = k := ⟨(F i).toNat, by omega⟩
  have hkt : (F i).toNat = k := by omega
  rw [hk] at eF
  by_cases h2 : k < ns2
  case neg =>
    have hp : ¬ hasPast (⟨W, H, nl, nd, nn, nb, ns, nf, L, D, N, B, S, F⟩ : Flm) ⟨W2, H2, nl2, nd2, nn2, nb2, ns2, nf2, L2, D2, N2, B2, S2, F2⟩ i := fun h => absurd h.2.1 (by simp only []; omega)
    rw [if_neg hp]
    exact dpast_far _ _ _ _ _ _ _ _ _ _ _ _ _ _ _ _ _ _ _ _ _ _ _ _ _ _ _ _ _ _ _ _ _ _ _ _ _ _ _ _ _ _ _ hi e1 e2 _ eF h2
  obtain ⟨xb, xo, rfl, eS⟩ := g2.at1 (k := i) (by omega)
  obtain ⟨xb2, xo2, rfl, eS2⟩ := k2.at1 h2
  by_cases h3 : S i = S2 k
  case neg =>
    have hp : ¬ hasPast (⟨W, H, nl, nd, nn, nb, ns, nf, L, D, N, B, S, F⟩ : Flm) ⟨W2, H2, nl2, nd2, nn2, nb2, ns2, nf2, L2, D2, N2, B2, S2, F2⟩ i := fun h => absurd h.2.2.1 (by simp only []; rw [hkt]; exact h3)
    rw [if_neg hp]
    exact dpast_shape _ _ _ _ _ _ _ _ _ _ _ _ _ _ _ _ _ _ _ _ _ _ _ _ _ _ _ _ _ _ _ _ _ _ _ _ _ _ _ _ _ _ _ _ _ hi e1 e2 _ eF h2 e3 _ _ eS eS2 h3
  obtain ⟨vb, vo, rfl, ea1, ea2, ea3⟩ := g1.at3 (k := i) (by omega)
  obtain ⟨vb2, vo2, rfl, eb1, eb2, eb3⟩ := k1.at3 (k := k) (by omega)
  by_cases h4 : ndot N N2 i k < 57344
  · have hp : ¬ hasPast (⟨W, H, nl, nd, nn, nb, ns, nf, L, D, N, B, S, F⟩ : Flm) ⟨W2, H2, nl2, nd2, nn2, nb2, ns2, nf2, L2, D2, N2, B2, S2, F2⟩ i := fun h => absurd h.2.2.2 (by simp only []; rw [hkt]; omega)
    rw [if_neg hp]
    exact dpast_dot _ _ _ _ _ _ _ _ _ _ _ _ _ _ _ _ _ _ _ _ _ _ _ _ _ _ _ _ _ _ _ _ _ _ _ _ _ _ _ _ _ _ _ _ _ _ _ hi e1 e2 _ eF h2 e3 _ _ eS eS2 h3 _ _ _ ea1 ea2 ea3 _ _ _ eb1 eb2 eb3 (ndot N N2 i k) h4 (fun W => by rw [ndot_comm]; exact Ve.rdot_any _ _ _ _ _ _ W)
  have hp : hasPast (⟨W, H, nl, nd, nn, nb, ns, nf, L, D, N, B, S, F⟩ : Flm) ⟨W2, H2, nl2, nd2, nn2, nb2, ns2, nf2, L2, D2, N2, B2, S2, F2⟩ i := ⟨by simp only []; omega, by simp only []; omega, by simp only []; rw [hkt]; exact h3, by simp only []; rw [hkt]; omega⟩
  rw [if_pos hp]
  simp only []
  rw [hk]
  exact dpast_yes _ _ _ _ _ _ _ _ _ _ _ _ _ _ _ _ _ _ _ _ _ _ _ _ _ _ _ _ _ _ _ _ _ _ _ _ _ _ _ _ _ _ _ _ _ _ _ hi e1 e2 _ eF h2 e3 _ _ eS eS2 h3 _ _ _ ea1 ea2 ea3 _ _ _ eb1 eb2 eb3 (ndot N N2 i k) h4 (fun W => by rw [ndot_comm]; exact Ve.rdot_any _ _ _ _ _ _ W)

end Go.Proofs.Ytgpbnpnnbipfpaa.Fm
