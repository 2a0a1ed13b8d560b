/- Scenes: boxes changed in one cell. -/
import Derived.Test.YtfeihojobmagnaaSk
import Derived.Test.YtfeihojobmagnaaSp
import Derived.Test.YtfeihojobmagnaaRsn
namespace Go.Proofs.Ytfeihojobmagnaa.Sc
open Go.RowKit Go.Proofs.Ytfeihojobmagnaa Go.Proofs.Ytfeihojobmagnaa.Wa Go.Proofs.Ytfeihojobmagnaa.Ve Go.Proofs.Ytfeihojobmagnaa.Tk Go.Proofs.Ytfeihojobmagnaa.Ls
set_option linter.unusedVariables false

theorem sbox_heap {w : World} {q : Nat} {s : Scn} {a : Pla} {t : TypeId} {fr : Nat × Nat} (h : w.heap[q]? = some (.cells (SC s a) t fr)) : SBox w q s a := by
  have hc : ∀ i, w.cell? ⟨q, i, none⟩ = (SC s a)[i]? := fun i => cell_of_row _ _ i _ _ _ h
  refine ⟨?_, ?_⟩
  · rcases Nat.lt_or_ge q w.heap.size with h' | h'
    · exact h'
    · rw [Array.getElem?_eq_none h'] at h; cases h
  · rw [hc, hc, hc, hc, hc, hc, hc, hc, hc, hc, hc, hc, hc, hc, hc, hc, hc]
    exact ⟨rfl, rfl, rfl, rfl, rfl, rfl, rfl, rfl, rfl, rfl, rfl, rfl, rfl, rfl, rfl, rfl, rfl⟩

/-- the shapes' slice is another one -/
theorem SBox.shapes {w : World} {q : Nat} {s : Scn} {a : Pla} (h : SBox w q s a) (sa : Option Addr) (n sc : Nat) : SBox (w.setCell ⟨q, 16, none⟩ (.slice sa n sc)) q { s with ns := n } { a with sa := sa, sc := sc } :=
  ⟨by rw [World.size_setCell]; exact h.1, OB.putS (pv := .slice a.pa s.np a.pc) (tv := .slice a.ta s.nt a.tc) (jv := .slice a.ja s.nj a.jc) (sv := .slice a.sa s.ns a.sc) h.2 (.slice sa n sc)⟩

/-- the paints' slice is another one -/
theorem SBox.paints {w : World} {q : Nat} {s : Scn} {a : Pla} (h : SBox w q s a) (pa : Option Addr) (n pc : Nat) (P : Nat → Int) : SBox (w.setCell ⟨q, 13, none⟩ (.slice pa n pc)) q { s with np := n, P := P } { a with pa := pa, pc := pc } :=
  ⟨by rw [World.size_setCell]; exact h.1, OB.putP (pv := .slice a.pa s.np a.pc) (tv := .slice a.ta s.nt a.tc) (jv := .slice a.ja s.nj a.jc) (sv := .slice a.sa s.ns a.sc) h.2 (.slice pa n pc)⟩

theorem SBox.frames {w : World} {q : Nat} {s : Scn} {a : Pla} (h : SBox w q s a) : SBox (w.setCell ⟨q, 4, none⟩ (.int .i64 1)) q (oneF s) a := by
  obtain ⟨h0, g0, g1, g2, g3, g4, g5, g6, g7, g8, g9, g10, g11, g12, g13, g14, g15, g16⟩ := h
  refine ⟨by rw [World.size_setCell]; exact h0, ?_⟩
  simp only [cset g4]
  exact ⟨g0, g1, g2, g3, rfl, g5, g6, g7, g8, g9, g10, g11, g12, g13, g14, g15, g16⟩

theorem Nums.less {c : Nat} {w : World} {a : Option Addr} {n m : Nat} {L : Nat → Int} (h : Nums c w a n L) (hm : m ≤ n) : Nums c w a m L := by
  obtain ⟨h0, h | ⟨b, off, e, hlt, hc⟩⟩ := h
  · exact ⟨Nat.le_trans (Nat.mul_le_mul_right _ hm) h0, .inl (by omega)⟩
  · exact ⟨Nat.le_trans (Nat.mul_le_mul_right _ hm) h0, .inr ⟨b, off, e, hlt, fun j hj => hc j (Nat.lt_of_lt_of_le hj (Nat.mul_le_mul_right _ hm))⟩⟩

theorem ScAt.lessS {w : World} {s : Scn} {a : Pla} (h : ScAt w s a) (sc : Nat) : ScAt w (lessS s) { a with sc := sc } := ⟨h.p, h.t, h.j, h.sh.less (by show s.ns - 1 ≤ s.ns; omega), h.sd⟩

theorem ScAt.one {w : World} {s : Scn} {a : Pla} (h : ScAt w s a) : ScAt w (oneF s) a := ⟨h.p, h.t, h.j, h.sh, h.sd⟩

/-- what stands in cells of no block that has changed -/
theorem ScAt.far {w w' : World} {s : Scn} {a : Pla} {N : Nat} (h : ScAt w s a) (hb : Below N w w') (hw : w.heap.size ≤ N) : ScAt w' s a := h.on (hb.mono hw)

end Go.Proofs.Ytfeihojobmagnaa.Sc
