/- Films mixed, by the program: each call's answer as one statement, by both sides. -/
import Derived.Test.YtgpbnpnnbipfpaaE50
namespace Go.Proofs.Ytgpbnpnnbipfpaa.Fm
open Go Go.RowKit Go.Proofs.Ytgpbnpnnbipfpaa Go.Proofs.Ytgpbnpnnbipfpaa.Rp Go.Proofs.Ytgpbnpnnbipfpaa.Re Go.Proofs.Ytgpbnpnnbipfpaa.Au Go.Proofs.Ytgpbnpnnbipfpaa.Jw
set_option linter.unusedVariables false
set_option linter.unusedSimpArgs false

/-- Blend answers a sheet -/
def bOK (f g : Flm) (W3 H3 : Int) (nm : Nat) : Prop := okF f ∧ okF g ∧ okSh W3 H3 nm ∧ (W3 = g.W ∧ H3 = g.H)

instance (f g : Flm) (W3 H3 : Int) (nm : Nat) : Decidable (bOK f g W3 H3 nm) := by unfold bOK; infer_instance

def bW (f g : Flm) (W3 H3 : Int) (nm : Nat) : Int := if bOK f g W3 H3 nm then f.W else 0
def bH (f g : Flm) (W3 H3 : Int) (nm : Nat) : Int := if bOK f g W3 H3 nm then f.H else 0
def bN (f g : Flm) (W3 H3 : Int) (nm : Nat) : Nat := if bOK f g W3 H3 nm then f.nl else 0
def bE (f g : Flm) (W3 H3 : Int) (nm : Nat) : Int := if bOK f g W3 H3 nm then 0 else 1
def kK (f g : Flm) : Int := if okF f ∧ okF g then keptN f g f.nf else 0

theorem bN_le (f g : Flm) (W3 H3 : Int) (nm : Nat) : bN f g W3 H3 nm ≤ 5000 := by
  unfold bN
  split
  · rename_i h
    have h1 := okSz_mul h.1.1.1
    have h2 := h.1.1.2
    omega
  · omega

theorem own_rwp {base : Nat} {w : World} {e : TypeId} {g n cap c : Nat} {L : Nat → Int} (h : w.ownsRow base e c (.slice (some ⟨g, 0, none⟩) n cap) n (flatc c L n)) : RwP (fun b => base ≤ b) c w (some ⟨g, 0, none⟩) n L :=
  rwp_own _ h fun b h1 _ _ => h1

theorem blend_all (f g : Flm) (p q : Pl) (W3 H3 : Int) (am : Option Addr) (nm cm : Nat) (M : Nat → Int) (w : World) (hf : FAt w f p) (hg : FAt w g q) (hm : Rw 3 w am nm M) :
    Calls Try.prog 8 #[.agg (FC f p), .agg (FC g q), .agg #[.int .i64 W3, .int .i64 H3, .slice am nm cm]] w fun e' w' => (∃ a c, e' = .returned (.tuple #[.agg #[.int .i64 (bW f g W3 H3 nm), .int .i64 (bH f g W3 H3 nm), .slice a (bN f g W3 H3 nm) c], .int .i64 (bE f g W3 H3 nm)]) ∧ RwP (fun b => w.heap.size ≤ b) 3 w' a (bN f g W3 H3 nm) (blend f g M)) ∧ Below w.heap.size w w' := by
  obtain ⟨W, H, nl, nd, nn, nb, ns, nf, L, D, N, B, S, F⟩ := f
  obtain ⟨al, cl, ad, cd, an, cn, ab, cb, ax, cx, af, cf⟩ := p
  obtain ⟨W2, H2, nl2, nd2, nn2, nb2, ns2, nf2, L2, D2, N2, B2, S2, F2⟩ := g
  obtain ⟨al2, cl2, ad2, cd2, an2, cn2, ab2, cb2, ax2, cx2, af2, cf2⟩ := q
  by_cases ho : okF (⟨W, H, nl, nd, nn, nb, ns, nf, L, D, N, B, S, F⟩ : Flm)
  case neg =>
    have hb : ¬ bOK (⟨W, H, nl, nd, nn, nb, ns, nf, L, D, N, B, S, F⟩ : Flm) (⟨W2, H2, nl2, nd2, nn2, nb2, ns2, nf2, L2, D2, N2, B2, S2, F2⟩ : Flm) W3 H3 nm := fun k => ho k.1
    have e1 : bW (⟨W, H, nl, nd, nn, nb, ns, nf, L, D, N, B, S, F⟩ : Flm) (⟨W2, H2, nl2, nd2, nn2, nb2, ns2, nf2, L2, D2, N2, B2, S2, F2⟩ : Flm) W3 H3 nm = 0 := if_neg hb
    have e2 : bH (⟨W, H, nl, nd, nn, nb, ns, nf, L, D, N, B, S, F⟩ : Flm) (⟨W2, H2, nl2, nd2, nn2, nb2, ns2, nf2, L2, D2, N2, B2, S2, F2⟩ : Flm) W3 H3 nm = 0 := if_neg hb
    have e3 : bN (⟨W, H, nl, nd, nn, nb, ns, nf, L, D, N, B, S, F⟩ : Flm) (⟨W2, H2, nl2, nd2, nn2, nb2, ns2, nf2, L2, D2, N2, B2, S2, F2⟩ : Flm) W3 H3 nm = 0 := if_neg hb
    have e4 : bE (⟨W, H, nl, nd, nn, nb, ns, nf, L, D, N, B, S, F⟩ : Flm) (⟨W2, H2, nl2, nd2, nn2, nb2, ns2, nf2, L2, D2, N2, B2, S2, F2⟩ : Flm) W3 H3 nm = 1 := if_neg hb
    rw [e1, e2, e3, e4]
    exact (blend_f W H al ad an ab ax af cl cd cn cb cx cf nl nd nn nb ns nf L D N B S F W2 H2 al2 ad2 an2 ab2 ax2 af2 cl2 cd2 cn2 cb2 cx2 cf2 nl2 nd2 nn2 nb2 ns2 nf2 L2 D2 N2 B2 S2 F2 W3 H3 am nm cm M w hf hg hm ho).mono fun e' w' ⟨k1, k2⟩ => ⟨⟨none, 0, k1, .inl rfl⟩, k2⟩
  by_cases ho2 : okF (⟨W2, H2, nl2, nd2, nn2, nb2, ns2, nf2, L2, D2, N2, B2, S2, F2⟩ : Flm)
  case neg =>
    have hb : ¬ bOK (⟨W, H, nl, nd, nn, nb, ns, nf, L, D, N, B, S, F⟩ : Flm) (⟨W2, H2, nl2, nd2, nn2, nb2, ns2, nf2, L2, D2, N2, B2, S2, F2⟩ : Flm) W3 H3 nm := fun k => ho2 k.2.1
    have e1 : bW (⟨W, H, nl, nd, nn, nb, ns, nf, L, D, N, B, S, F⟩ : Flm) (⟨W2, H2, nl2, nd2, nn2, nb2, ns2, nf2, L2, D2, N2, B2, S2, F2⟩ : Flm) W3 H3 nm = 0 := if_neg hb
    have e2 : bH (⟨W, H, nl, nd, nn, nb, ns, nf, L, D, N, B, S, F⟩ : Flm) (⟨W2, H2, nl2, nd2, nn2, nb2, ns2, nf2, L2, D2, N2, B2, S2, F2⟩ : Flm) W3 H3 nm = 0 := if_neg hb
    have e3 : bN (⟨W, H, nl, nd, nn, nb, ns, nf, L, D, N, B, S, F⟩ : Flm) (⟨W2, H2, nl2, nd2, nn2, nb2, ns2, nf2, L2, D2, N2, B2, S2, F2⟩ : Flm) W3 H3 nm = 0 := if_neg hb
    have e4 : bE (⟨W, H, nl, nd, nn, nb, ns, nf, L, D, N, B, S, F⟩ : Flm) (⟨W2, H2, nl2, nd2, nn2, nb2, ns2, nf2, L2, D2, N2, B2, S2, F2⟩ : Flm) W3 H3 nm = 1 := if_neg hb
    rw [e1, e2, e3, e4]
    exact (blend_g W H al ad an ab ax af cl cd cn cb cx cf nl nd nn nb ns nf L D N B S F W2 H2 al2 ad2 an2 ab2 ax2 af2 cl2 cd2 cn2 cb2 cx2 cf2 nl2 nd2 nn2 nb2 ns2 nf2 L2 D2 N2 B2 S2 F2 W3 H3 am nm cm M w hf hg hm ho ho2).mono fun e' w' ⟨k1, k2⟩ => ⟨⟨none, 0, k1, .inl rfl⟩, k2⟩
  by_cases ho3 : okSh W3 H3 nm
  case neg =>
    have hb : ¬ bOK (⟨W, H, nl, nd, nn, nb, ns, nf, L, D, N, B, S, F⟩ : Flm) (⟨W2, H2, nl2, nd2, nn2, nb2, ns2, nf2, L2, D2, N2, B2, S2, F2⟩ : Flm) W3 H3 nm := fun k => ho3 k.2.2.1
    have e1 : bW (⟨W, H, nl, nd, nn, nb, ns, nf, L, D, N, B, S, F⟩ : Flm) (⟨W2, H2, nl2, nd2, nn2, nb2, ns2, nf2, L2, D2, N2, B2, S2, F2⟩ : Flm) W3 H3 nm = 0 := if_neg hb
    have e2 : bH (⟨W, H, nl, nd, nn, nb, ns, nf, L, D, N, B, S, F⟩ : Flm) (⟨W2, H2, nl2, nd2, nn2, nb2, ns2, nf2, L2, D2, N2, B2, S2, F2⟩ : Flm) W3 H3 nm = 0 := if_neg hb
    have e3 : bN (⟨W, H, nl, nd, nn, nb, ns, nf, L, D, N, B, S, F⟩ : Flm) (⟨W2, H2, nl2, nd2, nn2, nb2, ns2, nf2, L2, D2, N2, B2, S2, F2⟩ : Flm) W3 H3 nm = 0 := if_neg hb
    have e4 : bE (⟨W, H, nl, nd, nn, nb, ns, nf, L, D, N, B, S, F⟩ : Flm) (⟨W2, H2, nl2, nd2, nn2, nb2, ns2, nf2, L2, D2, N2, B2, S2, F2⟩ : Flm) W3 H3 nm = 1 := if_neg hb
    rw [e1, e2, e3, e4]
    exact (blend_m W H al ad an ab ax af cl cd cn cb cx cf nl nd nn nb ns nf L D N B S F W2 H2 al2 ad2 an2 ab2 ax2 af2 cl2 cd2 cn2 cb2 cx2 cf2 nl2 nd2 nn2 nb2 ns2 nf2 L2 D2 N2 B2 S2 F2 W3 H3 am nm cm M w hf hg hm ho ho2 ho3).mono fun e' w' ⟨k1, k2⟩ => ⟨⟨none, 0, k1, .inl rfl⟩, k2⟩
  by_cases hs : W3 = W2 ∧ H3 = H2
  case neg =>
    have hb : ¬ bOK (⟨W, H, nl, nd, nn, nb, ns, nf, L, D, N, B, S, F⟩ : Flm) (⟨W2, H2, nl2, nd2, nn2, nb2, ns2, nf2, L2, D2, N2, B2, S2, F2⟩ : Flm) W3 H3 nm := fun k => hs k.2.2.2
    have e1 : bW (⟨W, H, nl, nd, nn, nb, ns, nf, L, D, N, B, S, F⟩ : Flm) (⟨W2, H2, nl2, nd2, nn2, nb2, ns2, nf2, L2, D2, N2, B2, S2, F2⟩ : Flm) W3 H3 nm = 0 := if_neg hb
    have e2 : bH (⟨W, H, nl, nd, nn, nb, ns, nf, L, D, N, B, S, F⟩ : Flm) (⟨W2, H2, nl2, nd2, nn2, nb2, ns2, nf2, L2, D2, N2, B2, S2, F2⟩ : Flm) W3 H3 nm = 0 := if_neg hb
    have e3 : bN (⟨W, H, nl, nd, nn, nb, ns, nf, L, D, N, B, S, F⟩ : Flm) (⟨W2, H2, nl2, nd2, nn2, nb2, ns2, nf2, L2, D2, N2, B2, S2, F2⟩ : Flm) W3 H3 nm = 0 := if_neg hb
    have e4 : bE (⟨W, H, nl, nd, nn, nb, ns, nf, L, D, N, B, S, F⟩ : Flm) (⟨W2, H2, nl2, nd2, nn2, nb2, ns2, nf2, L2, D2, N2, B2, S2, F2⟩ : Flm) W3 H3 nm = 1 := if_neg hb
    rw [e1, e2, e3, e4]
    exact (blend_sz W H al ad an ab ax af cl cd cn cb cx cf nl nd nn nb ns nf L D N B S F W2 H2 al2 ad2 an2 ab2 ax2 af2 cl2 cd2 cn2 cb2 cx2 cf2 nl2 nd2 nn2 nb2 ns2 nf2 L2 D2 N2 B2 S2 F2 W3 H3 am nm cm M w hf hg hm ho ho2 ho3 hs).mono fun e' w' ⟨k1, k2⟩ => ⟨⟨none, 0, k1, .inl rfl⟩, k2⟩
  have hb : bOK (⟨W, H, nl, nd, nn, nb, ns, nf, L, D, N, B, S, F⟩ : Flm) (⟨W2, H2, nl2, nd2, nn2, nb2, ns2, nf2, L2, D2, N2, B2, S2, F2⟩ : Flm) W3 H3 nm := ⟨ho, ho2, ho3, hs⟩
  have e1 : bW (⟨W, H, nl, nd, nn, nb, ns, nf, L, D, N, B, S, F⟩ : Flm) (⟨W2, H2, nl2, nd2, nn2, nb2, ns2, nf2, L2, D2, N2, B2, S2, F2⟩ : Flm) W3 H3 nm = W := if_pos hb
  have e2 : bH (⟨W, H, nl, nd, nn, nb, ns, nf, L, D, N, B, S, F⟩ : Flm) (⟨W2, H2, nl2, nd2, nn2, nb2, ns2, nf2, L2, D2, N2, B2, S2, F2⟩ : Flm) W3 H3 nm = H := if_pos hb
  have e3 : bN (⟨W, H, nl, nd, nn, nb, ns, nf, L, D, N, B, S, F⟩ : Flm) (⟨W2, H2, nl2, nd2, nn2, nb2, ns2, nf2, L2, D2, N2, B2, S2, F2⟩ : Flm) W3 H3 nm = nl := if_pos hb
  have e4 : bE (⟨W, H, nl, nd, nn, nb, ns, nf, L, D, N, B, S, F⟩ : Flm) (⟨W2, H2, nl2, nd2, nn2, nb2, ns2, nf2, L2, D2, N2, B2, S2, F2⟩ : Flm) W3 H3 nm = 0 := if_pos hb
  rw [e1, e2, e3, e4]
  exact (blend_yes W H al ad an ab ax af cl cd cn cb cx cf nl nd nn nb ns nf L D N B S F W2 H2 al2 ad2 an2 ab2 ax2 af2 cl2 cd2 cn2 cb2 cx2 cf2 nl2 nd2 nn2 nb2 ns2 nf2 L2 D2 N2 B2 S2 F2 W3 H3 am nm cm M w hf hg hm ho ho2 ho3 hs).mono fun e' w' ⟨⟨g', cap, k1, k2⟩, k3⟩ => ⟨⟨_, _, k1, own_rwp k2⟩, k3⟩

theorem kept_all (f g : Flm) (p q : Pl) (w : World) (hf : FAt w f p) (hg : FAt w g q) : Calls Try.prog 15 #[.agg (FC f p), .agg (FC g q)] w fun e' w' => e' = .returned (.int .i64 (kK f g)) ∧ Below w.heap.size w w' := by
  obtain ⟨W, H, nl, nd, nn, nb, ns, nf, L, D, N, B, S, F⟩ := f
  obtain ⟨al, cl, ad, cd, an, cn, ab, cb, ax, cx, af, cf⟩ := p
  obtain ⟨W2, H2, nl2, nd2, nn2, nb2, ns2, nf2, L2, D2, N2, B2, S2, F2⟩ := g
  obtain ⟨al2, cl2, ad2, cd2, an2, cn2, ab2, cb2, ax2, cx2, af2, cf2⟩ := q
  by_cases ho : okF (⟨W, H, nl, nd, nn, nb, ns, nf, L, D, N, B, S, F⟩ : Flm)
  case neg =>
    rw [show kK (⟨W, H, nl, nd, nn, nb, ns, nf, L, D, N, B, S, F⟩ : Flm) (⟨W2, H2, nl2, nd2, nn2, nb2, ns2, nf2, L2, D2, N2, B2, S2, F2⟩ : Flm) = 0 from if_neg fun k => ho k.1]
    exact kept_f W H al ad an ab ax af cl cd cn cb cx cf nl nd nn nb ns nf L D N B S F W2 H2 al2 ad2 an2 ab2 ax2 af2 cl2 cd2 cn2 cb2 cx2 cf2 nl2 nd2 nn2 nb2 ns2 nf2 L2 D2 N2 B2 S2 F2 w hf hg ho
  by_cases ho2 : okF (⟨W2, H2, nl2, nd2, nn2, nb2, ns2, nf2, L2, D2, N2, B2, S2, F2⟩ : Flm)
  case neg =>
    rw [show kK (⟨W, H, nl, nd, nn, nb, ns, nf, L, D, N, B, S, F⟩ : Flm) (⟨W2, H2, nl2, nd2, nn2, nb2, ns2, nf2, L2, D2, N2, B2, S2, F2⟩ : Flm) = 0 from if_neg fun k => ho2 k.2]
    exact kept_g W H al ad an ab ax af cl cd cn cb cx cf nl nd nn nb ns nf L D N B S F W2 H2 al2 ad2 an2 ab2 ax2 af2 cl2 cd2 cn2 cb2 cx2 cf2 nl2 nd2 nn2 nb2 ns2 nf2 L2 D2 N2 B2 S2 F2 w hf hg ho ho2
  rw [show kK (⟨W, H, nl, nd, nn, nb, ns, nf, L, D, N, B, S, F⟩ : Flm) (⟨W2, H2, nl2, nd2, nn2, nb2, ns2, nf2, L2, D2, N2, B2, S2, F2⟩ : Flm) = keptN (⟨W, H, nl, nd, nn, nb, ns, nf, L, D, N, B, S, F⟩ : Flm) (⟨W2, H2, nl2, nd2, nn2, nb2, ns2, nf2, L2, D2, N2, B2, S2, F2⟩ : Flm) nf from if_pos ⟨ho, ho2⟩]
  exact kept_yes W H al ad an ab ax af cl cd cn cb cx cf nl nd nn nb ns nf L D N B S F W2 H2 al2 ad2 an2 ab2 ax2 af2 cl2 cd2 cn2 cb2 cx2 cf2 nl2 nd2 nn2 nb2 ns2 nf2 L2 D2 N2 B2 S2 F2 w hf hg ho ho2

theorem dblend_all (f g : Flm) (p q : Pl) (W3 H3 : Int) (am : Option Addr) (nm cm : Nat) (M : Nat → Int) (w : World) (hf : FAt w f p) (hg : FAt w g q) (hm : Rw 3 w am nm M) :
    Calls Try.prog 10 #[.agg (FC f p), .agg (FC g q), .agg #[.int .i64 W3, .int .i64 H3, .slice am nm cm]] w fun e' w' => (∃ a c, e' = .returned (.tuple #[.agg #[.int .i64 (bW f g W3 H3 nm), .int .i64 (bH f g W3 H3 nm), .slice a (bN f g W3 H3 nm) c], .int .i64 (bE f g W3 H3 nm)]) ∧ RwP (fun b => w.heap.size ≤ b) 3 w' a (bN f g W3 H3 nm) (blend f g M)) ∧ Below w.heap.size w w' := by
  obtain ⟨W, H, nl, nd, nn, nb, ns, nf, L, D, N, B, S, F⟩ := f
  obtain ⟨al, cl, ad, cd, an, cn, ab, cb, ax, cx, af, cf⟩ := p
  obtain ⟨W2, H2, nl2, nd2, nn2, nb2, ns2, nf2, L2, D2, N2, B2, S2, F2⟩ := g
  obtain ⟨al2, cl2, ad2, cd2, an2, cn2, ab2, cb2, ax2, cx2, af2, cf2⟩ := q
  by_cases ho : okF (⟨W, H, nl, nd, nn, nb, ns, nf, L, D, N, B, S, F⟩ : Flm)
  case neg =>
    have hb : ¬ bOK (⟨W, H, nl, nd, nn, nb, ns, nf, L, D, N, B, S, F⟩ : Flm) (⟨W2, H2, nl2, nd2, nn2, nb2, ns2, nf2, L2, D2, N2, B2, S2, F2⟩ : Flm) W3 H3 nm := fun k => ho k.1
    have e1 : bW (⟨W, H, nl, nd, nn, nb, ns, nf, L, D, N, B, S, F⟩ : Flm) (⟨W2, H2, nl2, nd2, nn2, nb2, ns2, nf2, L2, D2, N2, B2, S2, F2⟩ : Flm) W3 H3 nm = 0 := if_neg hb
    have e2 : bH (⟨W, H, nl, nd, nn, nb, ns, nf, L, D, N, B, S, F⟩ : Flm) (⟨W2, H2, nl2, nd2, nn2, nb2, ns2, nf2, L2, D2, N2, B2, S2, F2⟩ : Flm) W3 H3 nm = 0 := if_neg hb
    have e3 : bN (⟨W, H, nl, nd, nn, nb, ns, nf, L, D, N, B, S, F⟩ : Flm) (⟨W2, H2, nl2, nd2, nn2, nb2, ns2, nf2, L2, D2, N2, B2, S2, F2⟩ : Flm) W3 H3 nm = 0 := if_neg hb
    have e4 : bE (⟨W, H, nl, nd, nn, nb, ns, nf, L, D, N, B, S, F⟩ : Flm) (⟨W2, H2, nl2, nd2, nn2, nb2, ns2, nf2, L2, D2, N2, B2, S2, F2⟩ : Flm) W3 H3 nm = 1 := if_neg hb
    rw [e1, e2, e3, e4]
    exact (dblend_f W H al ad an ab ax af cl cd cn cb cx cf nl nd nn nb ns nf L D N B S F W2 H2 al2 ad2 an2 ab2 ax2 af2 cl2 cd2 cn2 cb2 cx2 cf2 nl2 nd2 nn2 nb2 ns2 nf2 L2 D2 N2 B2 S2 F2 W3 H3 am nm cm M w hf hg hm ho).mono fun e' w' ⟨k1, k2⟩ => ⟨⟨none, 0, k1, .inl rfl⟩, k2⟩
  by_cases ho2 : okF (⟨W2, H2, nl2, nd2, nn2, nb2, ns2, nf2, L2, D2, N2, B2, S2, F2⟩ : Flm)
  case neg =>
    have hb : ¬ bOK (⟨W, H, nl, nd, nn, nb, ns, nf, L, D, N, B, S, F⟩ : Flm) (⟨W2, H2, nl2, nd2, nn2, nb2, ns2, nf2, L2, D2, N2, B2, S2, F2⟩ : Flm) W3 H3 nm := fun k => ho2 k.2.1
    have e1 : bW (⟨W, H, nl, nd, nn, nb, ns, nf, L, D, N, B, S, F⟩ : Flm) (⟨W2, H2, nl2, nd2, nn2, nb2, ns2, nf2, L2, D2, N2, B2, S2, F2⟩ : Flm) W3 H3 nm = 0 := if_neg hb
    have e2 : bH (⟨W, H, nl, nd, nn, nb, ns, nf, L, D, N, B, S, F⟩ : Flm) (⟨W2, H2, nl2, nd2, nn2, nb2, ns2, nf2, L2, D2, N2, B2, S2, F2⟩ : Flm) W3 H3 nm = 0 := if_neg hb
    have e3 : bN (⟨W, H, nl, nd, nn, nb, ns, nf, L, D, N, B, S, F⟩ : Flm) (⟨W2, H2, nl2, nd2, nn2, nb2, ns2, nf2, L2, D2, N2, B2, S2, F2⟩ : Flm) W3 H3 nm = 0 := if_neg hb
    have e4 : bE (⟨W, H, nl, nd, nn, nb, ns, nf, L, D, N, B, S, F⟩ : Flm) (⟨W2, H2, nl2, nd2, nn2, nb2, ns2, nf2, L2, D2, N2, B2, S2, F2⟩ : Flm) W3 H3 nm = 1 := if_neg hb
    rw [e1, e2, e3, e4]
    exact (dblend_g W H al ad an ab ax af cl cd cn cb cx cf nl nd nn nb ns nf L D N B S F W2 H2 al2 ad2 an2 ab2 ax2 af2 cl2 cd2 cn2 cb2 cx2 cf2 nl2 nd2 nn2 nb2 ns2 nf2 L2 D2 N2 B2 S2 F2 W3 H3 am nm cm M w hf hg hm ho ho2).mono fun e' w' ⟨k1, k2⟩ => ⟨⟨none, 0, k1, .inl rfl⟩, k2⟩
  by_cases ho3 : okSh W3 H3 nm
  case neg =>
    have hb : ¬ bOK (⟨W, H, nl, nd, nn, nb, ns, nf, L, D, N, B, S, F⟩ : Flm) (⟨W2, H2, nl2, nd2, nn2, nb2, ns2, nf2, L2, D2, N2, B2, S2, F2⟩ : Flm) W3 H3 nm := fun k => ho3 k.2.2.1
    have e1 : bW (⟨W, H, nl, nd, nn, nb, ns, nf, L, D, N, B, S, F⟩ : Flm) (⟨W2, H2, nl2, nd2, nn2, nb2, ns2, nf2, L2, D2, N2, B2, S2, F2⟩ : Flm) W3 H3 nm = 0 := if_neg hb
    have e2 : bH (⟨W, H, nl, nd, nn, nb, ns, nf, L, D, N, B, S, F⟩ : Flm) (⟨W2, H2, nl2, nd2, nn2, nb2, ns2, nf2, L2, D2, N2, B2, S2, F2⟩ : Flm) W3 H3 nm = 0 := if_neg hb
    have e3 : bN (⟨W, H, nl, nd, nn, nb, ns, nf, L, D, N, B, S, F⟩ : Flm) (⟨W2, H2, nl2, nd2, nn2, nb2, ns2, nf2, L2, D2, N2, B2, S2, F2⟩ : Flm) W3 H3 nm = 0 := if_neg hb
    have e4 : bE (⟨W, H, nl, nd, nn, nb, ns, nf, L, D, N, B, S, F⟩ : Flm) (⟨W2, H2, nl2, nd2, nn2, nb2, ns2, nf2, L2, D2, N2, B2, S2, F2⟩ : Flm) W3 H3 nm = 1 := if_neg hb
    rw [e1, e2, e3, e4]
    exact (dblend_m W H al ad an ab ax af cl cd cn cb cx cf nl nd nn nb ns nf L D N B S F W2 H2 al2 ad2 an2 ab2 ax2 af2 cl2 cd2 cn2 cb2 cx2 cf2 nl2 nd2 nn2 nb2 ns2 nf2 L2 D2 N2 B2 S2 F2 W3 H3 am nm cm M w hf hg hm ho ho2 ho3).mono fun e' w' ⟨k1, k2⟩ => ⟨⟨none, 0, k1, .inl rfl⟩, k2⟩
  by_cases hw : W3 = W2
  case neg =>
    have hb : ¬ bOK (⟨W, H, nl, nd, nn, nb, ns, nf, L, D, N, B, S, F⟩ : Flm) (⟨W2, H2, nl2, nd2, nn2, nb2, ns2, nf2, L2, D2, N2, B2, S2, F2⟩ : Flm) W3 H3 nm := fun k => hw k.2.2.2.1
    have e1 : bW (⟨W, H, nl, nd, nn, nb, ns, nf, L, D, N, B, S, F⟩ : Flm) (⟨W2, H2, nl2, nd2, nn2, nb2, ns2, nf2, L2, D2, N2, B2, S2, F2⟩ : Flm) W3 H3 nm = 0 := if_neg hb
    have e2 : bH (⟨W, H, nl, nd, nn, nb, ns, nf, L, D, N, B, S, F⟩ : Flm) (⟨W2, H2, nl2, nd2, nn2, nb2, ns2, nf2, L2, D2, N2, B2, S2, F2⟩ : Flm) W3 H3 nm = 0 := if_neg hb
    have e3 : bN (⟨W, H, nl, nd, nn, nb, ns, nf, L, D, N, B, S, F⟩ : Flm) (⟨W2, H2, nl2, nd2, nn2, nb2, ns2, nf2, L2, D2, N2, B2, S2, F2⟩ : Flm) W3 H3 nm = 0 := if_neg hb
    have e4 : bE (⟨W, H, nl, nd, nn, nb, ns, nf, L, D, N, B, S, F⟩ : Flm) (⟨W2, H2, nl2, nd2, nn2, nb2, ns2, nf2, L2, D2, N2, B2, S2, F2⟩ : Flm) W3 H3 nm = 1 := if_neg hb
    rw [e1, e2, e3, e4]
    exact (dblend_w W H al ad an ab ax af cl cd cn cb cx cf nl nd nn nb ns nf L D N B S F W2 H2 al2 ad2 an2 ab2 ax2 af2 cl2 cd2 cn2 cb2 cx2 cf2 nl2 nd2 nn2 nb2 ns2 nf2 L2 D2 N2 B2 S2 F2 W3 H3 am nm cm M w hf hg hm ho ho2 ho3 hw).mono fun e' w' ⟨k1, k2⟩ => ⟨⟨none, 0, k1, .inl rfl⟩, k2⟩
  by_cases hh : H3 = H2
  case neg =>
    have hb : ¬ bOK (⟨W, H, nl, nd, nn, nb, ns, nf, L, D, N, B, S, F⟩ : Flm) (⟨W2, H2, nl2, nd2, nn2, nb2, ns2, nf2, L2, D2, N2, B2, S2, F2⟩ : Flm) W3 H3 nm := fun k => hh k.2.2.2.2
    have e1 : bW (⟨W, H, nl, nd, nn, nb, ns, nf, L, D, N, B, S, F⟩ : Flm) (⟨W2, H2, nl2, nd2, nn2, nb2, ns2, nf2, L2, D2, N2, B2, S2, F2⟩ : Flm) W3 H3 nm = 0 := if_neg hb
    have e2 : bH (⟨W, H, nl, nd, nn, nb, ns, nf, L, D, N, B, S, F⟩ : Flm) (⟨W2, H2, nl2, nd2, nn2, nb2, ns2, nf2, L2, D2, N2, B2, S2, F2⟩ : Flm) W3 H3 nm = 0 := if_neg hb
    have e3 : bN (⟨W, H, nl, nd, nn, nb, ns, nf, L, D, N, B, S, F⟩ : Flm) (⟨W2, H2, nl2, nd2, nn2, nb2, ns2, nf2, L2, D2, N2, B2, S2, F2⟩ : Flm) W3 H3 nm = 0 := if_neg hb
    have e4 : bE (⟨W, H, nl, nd, nn, nb, ns, nf, L, D, N, B, S, F⟩ : Flm) (⟨W2, H2, nl2, nd2, nn2, nb2, ns2, nf2, L2, D2, N2, B2, S2, F2⟩ : Flm) W3 H3 nm = 1 := if_neg hb
    rw [e1, e2, e3, e4]
    exact (dblend_h W H al ad an ab ax af cl cd cn cb cx cf nl nd nn nb ns nf L D N B S F W2 H2 al2 ad2 an2 ab2 ax2 af2 cl2 cd2 cn2 cb2 cx2 cf2 nl2 nd2 nn2 nb2 ns2 nf2 L2 D2 N2 B2 S2 F2 W3 H3 am nm cm M w hf hg hm ho ho2 ho3 hw hh).mono fun e' w' ⟨k1, k2⟩ => ⟨⟨none, 0, k1, .inl rfl⟩, k2⟩
  have hb : bOK (⟨W, H, nl, nd, nn, nb, ns, nf, L, D, N, B, S, F⟩ : Flm) (⟨W2, H2, nl2, nd2, nn2, nb2, ns2, nf2, L2, D2, N2, B2, S2, F2⟩ : Flm) W3 H3 nm := ⟨ho, ho2, ho3, ⟨hw, hh⟩⟩
  have e1 : bW (⟨W, H, nl, nd, nn, nb, ns, nf, L, D, N, B, S, F⟩ : Flm) (⟨W2, H2, nl2, nd2, nn2, nb2, ns2, nf2, L2, D2, N2, B2, S2, F2⟩ : Flm) W3 H3 nm = W := if_pos hb
  have e2 : bH (⟨W, H, nl, nd, nn, nb, ns, nf, L, D, N, B, S, F⟩ : Flm) (⟨W2, H2, nl2, nd2, nn2, nb2, ns2, nf2, L2, D2, N2, B2, S2, F2⟩ : Flm) W3 H3 nm = H := if_pos hb
  have e3 : bN (⟨W, H, nl, nd, nn, nb, ns, nf, L, D, N, B, S, F⟩ : Flm) (⟨W2, H2, nl2, nd2, nn2, nb2, ns2, nf2, L2, D2, N2, B2, S2, F2⟩ : Flm) W3 H3 nm = nl := if_pos hb
  have e4 : bE (⟨W, H, nl, nd, nn, nb, ns, nf, L, D, N, B, S, F⟩ : Flm) (⟨W2, H2, nl2, nd2, nn2, nb2, ns2, nf2, L2, D2, N2, B2, S2, F2⟩ : Flm) W3 H3 nm = 0 := if_pos hb
  rw [e1, e2, e3, e4]
  exact dblend_yes W H al ad an ab ax af cl cd cn cb cx cf nl nd nn nb ns nf L D N B S F W2 H2 al2 ad2 an2 ab2 ax2 af2 cl2 cd2 cn2 cb2 cx2 cf2 nl2 nd2 nn2 nb2 ns2 nf2 L2 D2 N2 B2 S2 F2 W3 H3 am nm cm M w hf hg hm ho ho2 ho3 hw hh

theorem dkept_all (f g : Flm) (p q : Pl) (w : World) (hf : FAt w f p) (hg : FAt w g q) : Calls Try.prog 16 #[.agg (FC f p), .agg (FC g q)] w fun e' w' => e' = .returned (.int .i64 (kK f g)) ∧ Below w.heap.size w w' := by
  obtain ⟨W, H, nl, nd, nn, nb, ns, nf, L, D, N, B, S, F⟩ := f
  obtain ⟨al, cl, ad, cd, an, cn, ab, cb, ax, cx, af, cf⟩ := p
  obtain ⟨W2, H2, nl2, nd2, nn2, nb2, ns2, nf2, L2, D2, N2, B2, S2, F2⟩ := g
  obtain ⟨al2, cl2, ad2, cd2, an2, cn2, ab2, cb2, ax2, cx2, af2, cf2⟩ := q
  by_cases ho : okF (⟨W, H, nl, nd, nn, nb, ns, nf, L, D, N, B, S, F⟩ : Flm)
  case neg =>
    rw [show kK (⟨W, H, nl, nd, nn, nb, ns, nf, L, D, N, B, S, F⟩ : Flm) (⟨W2, H2, nl2, nd2, nn2, nb2, ns2, nf2, L2, D2, N2, B2, S2, F2⟩ : Flm) = 0 from if_neg fun k => ho k.1]
    exact dkept_f W H al ad an ab ax af cl cd cn cb cx cf nl nd nn nb ns nf L D N B S F W2 H2 al2 ad2 an2 ab2 ax2 af2 cl2 cd2 cn2 cb2 cx2 cf2 nl2 nd2 nn2 nb2 ns2 nf2 L2 D2 N2 B2 S2 F2 w hf hg ho
  by_cases ho2 : okF (⟨W2, H2, nl2, nd2, nn2, nb2, ns2, nf2, L2, D2, N2, B2, S2, F2⟩ : Flm)
  case neg =>
    rw [show kK (⟨W, H, nl, nd, nn, nb, ns, nf, L, D, N, B, S, F⟩ : Flm) (⟨W2, H2, nl2, nd2, nn2, nb2, ns2, nf2, L2, D2, N2, B2, S2, F2⟩ : Flm) = 0 from if_neg fun k => ho2 k.2]
    exact dkept_g W H al ad an ab ax af cl cd cn cb cx cf nl nd nn nb ns nf L D N B S F W2 H2 al2 ad2 an2 ab2 ax2 af2 cl2 cd2 cn2 cb2 cx2 cf2 nl2 nd2 nn2 nb2 ns2 nf2 L2 D2 N2 B2 S2 F2 w hf hg ho ho2
  rw [show kK (⟨W, H, nl, nd, nn, nb, ns, nf, L, D, N, B, S, F⟩ : Flm) (⟨W2, H2, nl2, nd2, nn2, nb2, ns2, nf2, L2, D2, N2, B2, S2, F2⟩ : Flm) = keptN (⟨W, H, nl, nd, nn, nb, ns, nf, L, D, N, B, S, F⟩ : Flm) (⟨W2, H2, nl2, nd2, nn2, nb2, ns2, nf2, L2, D2, N2, B2, S2, F2⟩ : Flm) nf from if_pos ⟨ho, ho2⟩]
  exact dkept_yes W H al ad an ab ax af cl cd cn cb cx cf nl nd nn nb ns nf L D N B S F W2 H2 al2 ad2 an2 ab2 ax2 af2 cl2 cd2 cn2 cb2 cx2 cf2 nl2 nd2 nn2 nb2 ns2 nf2 L2 D2 N2 B2 S2 F2 w hf hg ho ho2

theorem alone_y (f : Flm) (p : Pl) (w : World) (hf : FAt w f p) (ho : okF f) : Calls Try.prog 11 #[.agg (FC f p)] w fun e' w' => (∃ a c, e' = .returned (.tuple #[.agg #[.int .i64 f.W, .int .i64 f.H, .slice a f.nl c], .int .i64 0]) ∧ RwP (fun b => w.heap.size ≤ b) 3 w' a f.nl f.L) ∧ Below w.heap.size w w' := by
  obtain ⟨W, H, nl, nd, nn, nb, ns, nf, L, D, N, B, S, F⟩ := f
  obtain ⟨al, cl, ad, cd, an, cn, ab, cb, ax, cx, af, cf⟩ := p
  exact (alone_ok W H al ad an ab ax af cl cd cn cb cx cf nl nd nn nb ns nf L D N B S F w hf ho).mono fun e' w' ⟨⟨g', cap, k1, k2⟩, k3⟩ => ⟨⟨_, _, k1, own_rwp k2⟩, k3⟩

theorem alone_n (f : Flm) (p : Pl) (w : World) (hf : FAt w f p) (ho : ¬ okF f) : Calls Try.prog 11 #[.agg (FC f p)] w fun e' w' => e' = .returned (.tuple #[.agg #[.int .i64 0, .int .i64 0, .slice none 0 0], .int .i64 1]) ∧ Below w.heap.size w w' := by
  obtain ⟨W, H, nl, nd, nn, nb, ns, nf, L, D, N, B, S, F⟩ := f
  obtain ⟨al, cl, ad, cd, an, cn, ab, cb, ax, cx, af, cf⟩ := p
  exact alone_no W H al ad an ab ax af cl cd cn cb cx cf nl nd nn nb ns nf L D N B S F w hf ho

end Go.Proofs.Ytgpbnpnnbipfpaa.Fm
