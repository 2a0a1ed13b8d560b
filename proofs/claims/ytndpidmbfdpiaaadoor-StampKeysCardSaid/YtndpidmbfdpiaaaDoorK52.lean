/- Layer 26 (stamp): a row of bytes, and a list of digests, that came in. -/
import Derived.Test.YtndpidmbfdpiaaaDoorK49
import Derived.Test.YtndpidmbfdpiaaaDoorK20
import Derived.Test.YtndpidmbfdpiaaaDoorK35
namespace Go.Proofs.YtndpidmbfdpiaaaDoor.St
open Go Go.ChangeShapes Go.WideShapes Go.RowKit Go.Deep Go.Proofs.YtndpidmbfdpiaaaDoor Go.Proofs.YtndpidmbfdpiaaaDoor.Re Go.Proofs.YtndpidmbfdpiaaaDoor.Se
set_option linter.unusedVariables false

theorem open_bscS {H : Type} {enc : TypeId × Value → H} {W : World} {base : Nat} {held : Bool} {a : Option Addr} {len cap : Nat} {d : DataW H} {p : List MemPlace}
    (h : DataW.Trod enc Tryd.prog W base (fun _ => true) held 22 (.slice a len cap) d p) : ∃ l, BsC W (.slice a len cap) l := by
  obtain ⟨fuel, hf⟩ := h
  rcases open_ints Tryd.underlying22 Tryd.underlying5 (by kernel_rfl) hf with ⟨hcs, _⟩ | ⟨a', len', cap', zs, hcs, _, hl, hm, hz, hx, hcell, hwz⟩
  · cases hcs
    exact ⟨[], .inl ⟨rfl, rfl⟩⟩
  · cases hcs
    simp only [if_true] at hz
    have hlen : (toBytes (zs.take len)).length = len := by simp [toBytes]; omega
    refine ⟨toBytes (zs.take len), .inr ⟨a', cap, by rw [hlen], by omega, fun j u hu => ?_⟩⟩
    rw [toBytes_vals _ (fun n hn => hwz n (List.mem_of_mem_take hn))] at hu
    rw [List.getElem?_map, List.getElem?_take] at hu
    split at hu
    · rename_i hj
      have := hcell j (by omega)
      rw [this]
      have e : zs[j]? = some (zs.getD j 0) := by simp [List.getD, show j < zs.length by omega]
      rw [e] at hu
      simpa using hu
    · simp at hu

theorem dig_core {H : Type} {enc : TypeId × Value → H} {W : World} {base : Nat} {sp : Nat → Bool} {held : Bool} {fuel : Nat} {l : List Value} {x : DataW H × List MemPlace}
    (hf : DataW.trod enc Tryd.prog W base sp held fuel 26 l = some x) : ∃ y : List UInt8, l = vals y ∧ y.length = 32 := by
  obtain ⟨xs, m, -, -, hsz, hl, hd⟩ := DataW.trod_array Tryd.underlying26 hf
  rw [cells_d32] at hsz
  have hi : ∀ j, j < 32 → ∃ z : Int, l[j]? = some (.int .u8 z) ∧ (Lit.int .u8 z).wf = true := by
    intro j hj
    have h1 := hd j hj
    rw [List.getElem?_eq_getElem (by omega), cells_u8, Nat.mul_one] at h1
    obtain ⟨z, e, -, hw⟩ := DataW.trod_int Tryd.underlying5 h1
    refine ⟨z, ?_, hw⟩
    have h2 : ((l.drop j).take 1)[0]? = some (.int .u8 z) := by rw [e]; rfl
    rw [List.getElem?_take, if_pos (by omega), List.getElem?_drop] at h2
    simpa using h2
  obtain ⟨L, hL⟩ := choose_lt (α := Int) (n := 32) (p := fun j z => l[j]? = some (.int .u8 z) ∧ (Lit.int .u8 z).wf = true) hi
  refine ⟨toBytes ((List.range 32).map L), ?_, by simp [toBytes]⟩
  rw [toBytes_vals _ (fun n hn => by
    obtain ⟨j, hj, rfl⟩ := List.mem_map.1 hn
    rw [List.mem_range] at hj
    exact (hL j hj).2), List.map_map]
  apply List.ext_getElem?
  intro j
  by_cases hj : j < 32
  · rw [(hL j hj).1]; simp [hj]
  · rw [List.getElem?_eq_none (by omega), List.getElem?_eq_none (by simp; omega)]

theorem open_digs {H : Type} {enc : TypeId × Value → H} {W : World} {base : Nat} {held : Bool} {a : Option Addr} {len cap : Nat} {d : DataW H} {p : List MemPlace}
    (h : DataW.Trod enc Tryd.prog W base (fun _ => true) held 23 (.slice a len cap) d p) (hlt : ∀ x ∈ p, x.block < W.heap.size) : ∃ ds, len ≤ 30 → Dgs W (.slice a len cap) ds := by
  obtain ⟨fuel, hf⟩ := h
  rcases open_slice Tryd.underlying23 hf with ⟨hcs, _⟩ | ⟨x, l, c, m, n, D, Pl, hcs, _, hl, _, hmm, hx, hel⟩
  · simp [Value.cells] at hcs
    obtain ⟨rfl, rfl, rfl⟩ := hcs
    exact ⟨[], fun _ => ⟨by simp, none, 0, 0, rfl, rfl, by omega, .inl rfl⟩⟩
  · simp [Value.cells] at hcs
    obtain ⟨rfl, rfl, rfl⟩ := hcs
    simp only [if_true] at hmm
    obtain ⟨f, hF⟩ := choose_lt (α := List UInt8) (n := m) (p := fun i y => y.length = 32 ∧ ∀ j u, (vals y)[j]? = some u → W.cell? ((x.add (i * 32)).add j) = some u) (fun i hi => by
      obtain ⟨cs', h1, h2⟩ := hel i hi
      obtain ⟨_, hlen, hc⟩ := World.cells?_some h1
      rw [cells_d32] at hlen hc
      obtain ⟨y, rfl, hy⟩ := dig_core h2
      refine ⟨y, hy, fun j u hu => ?_⟩
      have hj : j < 32 := by
        have := (List.getElem?_eq_some_iff.1 hu).1
        rw [vals_length] at this
        omega
      rw [hc j hj]
      exact hu)
    refine ⟨(List.range len).map f, fun h30 => ⟨fun d hd => ?_, some x, len, cap, rfl, by simp, by omega, ?_⟩⟩
    · obtain ⟨i, hi, rfl⟩ := List.mem_map.1 hd
      rw [List.mem_range] at hi
      exact (hF i (by omega)).1
    · by_cases hl0 : len = 0
      · exact .inl hl0
      · right
        obtain ⟨b, off, spot⟩ := x
        have h0 := (hF 0 (by omega)).2 0 (.int .u8 (((f 0)[0]'(by have := (hF 0 (by omega)).1; omega)).toNat : Int)) (by
          have := (hF 0 (by omega)).1
          unfold vals
          rw [List.getElem?_map, List.getElem?_eq_getElem (by omega)]
          rfl)
        have hspot : spot = none := by simpa [Addr.add] using World.cell?_spot h0
        subst hspot
        have hbW : b < W.heap.size := by
          have := World.block_lt_of_cell? W _ h0
          rw [ad_block, ad_block] at this
          exact this
        refine ⟨b, off, rfl, hbW, fun j hj => ?_⟩
        rw [show ((List.range len).map f).getD j [] = f j by simp [List.getD, hj]]
        intro i u hu
        have h1 := (hF j (by omega)).2 i u hu
        rw [Se.add_at, Se.add_at] at h1
        exact h1
end Go.Proofs.YtndpidmbfdpiaaaDoor.St
