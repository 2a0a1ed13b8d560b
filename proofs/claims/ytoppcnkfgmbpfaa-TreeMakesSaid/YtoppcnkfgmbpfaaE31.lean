/- Trees: what one side of a cut costs, by the program. -/
import Derived.Test.YtoppcnkfgmbpfaaE30
import Derived.Test.YtoppcnkfgmbpfaaE22
namespace Go.Proofs.Ytoppcnkfgmbpfaa.Tr
open Go.RowKit Go.Proofs.Ytoppcnkfgmbpfaa Go.Proofs.Ytoppcnkfgmbpfaa.Wa Go.Proofs.Ytoppcnkfgmbpfaa.Ve Go.Proofs.Ytoppcnkfgmbpfaa.Au Go.Proofs.Ytoppcnkfgmbpfaa.Bx
set_option linter.unusedVariables false
set_option linter.unusedSimpArgs false

/-- the skin of the box about some shapes' whole way -/
def skinL (PL : Nat → Int) (l : List Nat) : Int := skin6 (min (lo6 (La (pl PL l)) 0 l.length) (lo6 (Lb (pl PL l)) 0 l.length)) (min (lo6 (La (pl PL l)) 1 l.length) (lo6 (Lb (pl PL l)) 1 l.length)) (min (lo6 (La (pl PL l)) 2 l.length) (lo6 (Lb (pl PL l)) 2 l.length)) (max (hi6 (La (pl PL l)) 0 l.length) (hi6 (Lb (pl PL l)) 0 l.length)) (max (hi6 (La (pl PL l)) 1 l.length) (hi6 (Lb (pl PL l)) 1 l.length)) (max (hi6 (La (pl PL l)) 2 l.length) (hi6 (Lb (pl PL l)) 2 l.length))

def costL (PL : Nat → Int) (l : List Nat) : Int := (l.length : Int) * skinL PL l

theorem cost_l (PL : Nat → Int) (N : Nat) (l : List Nat) (h1 : 1 ≤ l.length) (hm : l.length ≤ 1000) (hN : N ≤ 1000) (hlt : ∀ j, j < l.length → l.getD j 0 < N) (mb gp op pc gl ol lc : Nat) (hlc : l.length ≤ lc) (nv ov : Value) (w : World) (hgp : gp < w.heap.size) (hgl : gl < w.heap.size)
    (hmb : w.heap[mb]? = some (.cells #[nv, ov, .slice (some ⟨gp, op, none⟩) N pc] 58 (0, 0)))
    (hp : ∀ j, j < N * 12 → w.cell? ⟨gp, op + j, none⟩ = some (.int .i64 (PL j))) (hl : ∀ j, j < l.length → w.cell? ⟨gl, ol + j, none⟩ = some (.int .i64 ((l.getD j 0 : Nat) : Int))) :
    Calls Try.prog 27 #[.pointer (some ⟨mb, 0, none⟩), .slice (some ⟨gl, ol, none⟩) l.length lc] w fun e w' => e = .returned (.int .i64 (costL PL l)) ∧ Below w.heap.size w w' := by
  have hb := both_l PL N l h1 hm hN hlt mb gp op pc gl ol lc hlc nv ov w hgp hgl hmb hp hl
  obtain ⟨sk, hsk⟩ : ∃ s, s = skinL PL l := ⟨_, rfl⟩
  have hs0 : -2147483648 ≤ sk ∧ sk ≤ 2147483648 := by rw [hsk]; unfold skinL; exact ⟨Pl.held_lo _, Pl.held_hi _⟩
  have hwr : IntKind.i64.wrap ((l.length : Int) * sk) = (l.length : Int) * sk := by
    rw [IntKind.wrap_i64]
    have a := hs0.1
    have b := hs0.2
    have c1 : -(2147483648 * 1000) ≤ (l.length : Int) * sk := by
      have : (l.length : Int) * (-2147483648) ≤ (l.length : Int) * sk := Int.mul_le_mul_of_nonneg_left a (by omega)
      omega
    have c2 : (l.length : Int) * sk ≤ 2147483648 * 1000 := by
      have : (l.length : Int) * sk ≤ (l.length : Int) * 2147483648 := Int.mul_le_mul_of_nonneg_left b (by omega)
      omega
    omega
  have HSK := Lib.hid hsk
  have HB := Lib.hid hb
  clear hsk hb hl hp hmb hlt
  go_enter Try.func27, Try.ntmps27
  go_wp2_with fail
  refine HB.out.mono ?_
  rintro e w1 ⟨rfl, hb1⟩
  go_wp2_with (go_at_call 38; refine (Bx.whole_any _ _ _ _ _ _ _ _ _ _ _ _ _).mono ?_; rintro e w2 ⟨rfl, hb2⟩)
  refine (bskin_any _ _ _ _ _ _ _).mono ?_
  rintro e w3 ⟨rfl, hb3⟩
  rw [show skin6 (min (lo6 (La (pl PL l)) 0 l.length) (lo6 (Lb (pl PL l)) 0 l.length)) (min (lo6 (La (pl PL l)) 1 l.length) (lo6 (Lb (pl PL l)) 1 l.length)) (min (lo6 (La (pl PL l)) 2 l.length) (lo6 (Lb (pl PL l)) 2 l.length)) (max (hi6 (La (pl PL l)) 0 l.length) (hi6 (Lb (pl PL l)) 0 l.length)) (max (hi6 (La (pl PL l)) 1 l.length) (hi6 (Lb (pl PL l)) 1 l.length)) (max (hi6 (La (pl PL l)) 2 l.length) (hi6 (Lb (pl PL l)) 2 l.length)) = sk from HSK.out.symm]
  go_wp2_with fail
  go_ret
  have h2 := hb1.trans (hb2.mono hb1.size)
  exact ⟨by unfold costL; rw [← HSK.out]; rfl, h2.trans (hb3.mono h2.size)⟩

end Go.Proofs.Ytoppcnkfgmbpfaa.Tr
