/- Layer 25: a plan that came in. -/
import Derived.Test.YtndpidmbfdpiaaaPnd
import Derived.ProofKit
import Derived.SizedLaws
import Derived.ChangeSlices
import Derived.WideShapes
import Derived.Deep.Slices
namespace Go.Proofs.Ytndpidmbfdpiaaa.Pn
open Go Go.ChangeShapes Go.WideShapes Go.RowKit Go.Deep Go.Proofs.Ytndpidmbfdpiaaa
set_option linter.unusedVariables false

theorem open_ro {H : Type} {enc : TypeId × Value → H} {W : World} {base : Nat} {held : Bool} {fuel : Nat} {v : Value} {x : DataW H × List MemPlace}
    (hf : DataW.trod enc Try.prog W base (fun _ => true) held fuel 28 [v] = some x) : ∃ l, Ro W v l := by
  rcases open_ints Try.underlying28 Try.underlying3 (by kernel_rfl) hf with ⟨hcs, _⟩ | ⟨a, len, cap, zs, hcs, _, hl, hm, hz, hx, hcell, hwz⟩
  · cases hcs
    exact ⟨[], none, 0, 0, rfl, rfl, ⟨by omega, by omega⟩, .inl rfl⟩
  · cases hcs
    simp only [if_true] at hz
    refine ⟨zs.take len, some a, len, cap, rfl, by rw [List.length_take]; omega, ⟨by unfold maxLen at hm; omega, hl⟩, ?_⟩
    by_cases h0 : len = 0
    · exact .inl h0
    · obtain ⟨b, off, spot⟩ := a
      have hc0 := hcell 0 (by omega)
      have hspot : spot = none := by simpa [Addr.add] using World.cell?_spot hc0
      subst hspot
      have hbW : b < W.heap.size := by
        have := World.block_lt_of_cell? W _ hc0
        simpa [Addr.add] using this
      refine .inr ⟨b, off, rfl, hbW, fun j hj => ?_⟩
      have := hcell j (by omega)
      rw [List.getD_eq_getElem?_getD, List.getElem?_take, if_pos hj, ← List.getD_eq_getElem?_getD]
      rw [← add_plain]
      exact this

theorem open_plan {H : Type} {enc : TypeId × Value → H} {W : World} {base : Nat} {held : Bool} {a : Option Addr} {len cap : Nat} {d : DataW H} {p : List MemPlace}
    (h : DataW.Trod enc Try.prog W base (fun _ => true) held 22 (.slice a len cap) d p) (hs : ∀ es sp, d = .slice es sp → (es.length + sp.length) * Try.prog.bytesOf 28 ≤ reachBytes) :
    ∃ L, PAt W a len L := by
  obtain ⟨fuel, hf⟩ := h
  rcases open_slice1 Try.underlying22 (by kernel_rfl) hf with ⟨hcs, _⟩ | ⟨x, l, c, m, n, V, D, Pl, hcs, _, hl, _, hmm, hx, hel⟩
  · simp [Value.cells] at hcs
    obtain ⟨rfl, rfl, rfl⟩ := hcs
    exact ⟨[], rfl, by omega, .inl rfl⟩
  · simp [Value.cells] at hcs
    obtain ⟨rfl, rfl, rfl⟩ := hcs
    simp only [if_true] at hmm
    simp only [Prod.mk.injEq] at hx
    obtain ⟨rfl, rfl⟩ := hx
    have hw := hs _ _ rfl
    rw [show Try.prog.bytesOf 28 = 24 by kernel_rfl] at hw
    simp only [List.length_map, List.length_range, reachBytes] at hw
    have hbound : len ≤ 5864062014634 := by omega
    by_cases hl0 : len = 0
    · subst hl0
      exact ⟨[], rfl, by omega, .inl rfl⟩
    · have hall : ∀ i, i < m → ∃ y : List Int, Ro W (V i) y := fun i hi => open_ro (hel i hi).2
      obtain ⟨f, hF⟩ := choose_lt (α := List Int) (n := m) (p := fun i y => Ro W (V i) y) hall
      obtain ⟨b, off, spot⟩ := x
      have h0 := (hel 0 (by omega)).1
      have hspot : spot = none := by simpa [Addr.add] using World.cell?_spot h0
      subst hspot
      have hbW : b < W.heap.size := by
        have := World.block_lt_of_cell? W _ h0
        simpa [Addr.add] using this
      refine ⟨(List.range len).map f, by simp, hbound, .inr ⟨b, off, rfl, hbW, fun k hk => ⟨V k, ?_, ?_⟩⟩⟩
      · have := (hel k (by omega)).1
        rw [← add_plain]
        exact this
      · have e : ((List.range len).map f)[k]! = f k := by rw [getElem!_pos _ _ (by simpa using hk)]; simp
        rw [e]
        exact hF k (by omega)
end Go.Proofs.Ytndpidmbfdpiaaa.Pn
