/- Layer 22: lists of bytes that came in; the tables as the rows list them. -/
import Derived.Test.YtjejghfeeonghaaDoorRows
import Derived.Test.YtjejghfeeonghaaDoorSej
import Derived.Test.YtjejghfeeonghaaDoorRfb
import Derived.Deep.Slices
import Derived.Lib.LaidTab
import Derived.MakeChecks
import Derived.Stop.LaidErr
namespace Go.Proofs.YtjejghfeeonghaaDoor.Se
open Go Go.ChangeShapes Go.WideShapes Go.RowKit Go.Deep Go.Proofs.YtjejghfeeonghaaDoor Go.Proofs.YtjejghfeeonghaaDoor.Re
set_option linter.unusedVariables false

theorem tabs_of {W : World} (h : laidMet Tryd.prog Rows.sealSumsRow.laid W) : Tabs W := by
  have h1 : Lib.TabIs Tryd.prog W "zoetrope/seal.start" .u32 start.l := Lib.tabIs_of_head (g := 0) (t := 145) (n := 8) (e := 72) (by kernel_rfl) (by kernel_rfl) (by kernel_rfl) Tryd.underlying72 (by kernel_rfl) (by kernel_rfl) h
  have h2 : Lib.TabIs Tryd.prog W "zoetrope/seal.rounds" .u32 kt := Lib.tabIs_of_head (g := 1) (t := 74) (n := 64) (e := 72) (by kernel_rfl) (by kernel_rfl) (by kernel_rfl) Tryd.underlying72 (by kernel_rfl) (by kernel_rfl) (laidMet.tail h)
  exact ⟨fun j hj => h1.cell (by kernel_rfl) j hj, fun j hj => h2.cell (by kernel_rfl) j hj⟩

theorem tabs_sums {W : World} (hL : laidMetH Tryd.prog Rows.sealSumsRow.laid W) : Tabs W := by
  rw [Go.MakeChecks.laidMetH_plain Tryd.prog _ W (by decide)] at hL
  exact tabs_of hL

theorem tabs_edges {W : World} (hL : laidMetH Tryd.prog Rows.sealEdgesRow.laid W) : Tabs W := by
  rw [Go.MakeChecks.laidMetH_plain Tryd.prog _ W (by decide)] at hL
  exact tabs_of hL

theorem open_bsc {H : Type} {enc : TypeId × Value → H} {W : World} {base : Nat} {held : Bool} {fuel : Nat} {v : Value} {x : DataW H × List MemPlace}
    (hf : DataW.trod enc Tryd.prog W base (fun _ => true) held fuel 56 [v] = some x) : ∃ l, BsC W v l := by
  rcases open_ints Tryd.underlying56 Tryd.underlying5 (by kernel_rfl) hf with ⟨hcs, _⟩ | ⟨a, len, cap, zs, hcs, _, hl, hm, hz, hx, hcell, hwz⟩
  · cases hcs
    exact ⟨[], .inl ⟨rfl, rfl⟩⟩
  · cases hcs
    simp only [if_true] at hz
    have hlen : (toBytes (zs.take len)).length = len := by simp [toBytes]; omega
    refine ⟨toBytes (zs.take len), .inr ⟨a, cap, by rw [hlen], by omega, fun j u hu => ?_⟩⟩
    rw [toBytes_vals _ (fun n hn => hwz n (List.mem_of_mem_take hn))] at hu
    rw [List.getElem?_map, List.getElem?_take] at hu
    split at hu
    · rename_i hj
      have := hcell j (by omega)
      rw [this]
      have e : zs[j]? = some (zs.getD j 0) := by simp [List.getD, show j < zs.length by omega]
      rw [e] at hu
      simpa using hu
    · simp at hu

theorem open_parts {H : Type} {enc : TypeId × Value → H} {W : World} {base : Nat} {held : Bool} {a : Option Addr} {len cap : Nat} {d : DataW H} {p : List MemPlace}
    (h : DataW.Trod enc Tryd.prog W base (fun _ => true) held 117 (.slice a len cap) d p) (hlt : ∀ x ∈ p, x.block < W.heap.size) (hs : ∀ es sp, d = .slice es sp → (es.length + sp.length) * Tryd.prog.bytesOf 56 ≤ reachBytes) :
    ∃ f, len ≤ 140737488351232 ∧ BsL W a len f := by
  obtain ⟨fuel, hf⟩ := h
  rcases open_slice1 Tryd.underlying117 (by kernel_rfl) hf with ⟨hcs, _⟩ | ⟨x, l, c, m, n, V, D, Pl, hcs, _, hl, _, hmm, hx, hel⟩
  · simp [Value.cells] at hcs
    exact ⟨fun _ => [], by omega, .inl hcs.2.1⟩
  · simp [Value.cells] at hcs
    obtain ⟨rfl, rfl, rfl⟩ := hcs
    simp only [if_true] at hmm
    simp only [Prod.mk.injEq] at hx
    obtain ⟨rfl, rfl⟩ := hx
    have hw := hs _ _ rfl
    rw [show Tryd.prog.bytesOf 56 = 24 by kernel_rfl] at hw
    simp only [List.length_map, List.length_range, reachBytes] at hw
    have hbound : len ≤ 140737488351232 := by omega
    by_cases hl0 : len = 0
    · exact ⟨fun _ => [], hbound, .inl hl0⟩
    · have hall : ∀ i, i < m → ∃ y : List UInt8, BsC W (V i) y := fun i hi => open_bsc (hel i hi).2
      obtain ⟨f, hF⟩ := choose_lt (α := List UInt8) (n := m) (p := fun i y => BsC W (V i) y) hall
      obtain ⟨b, off, spot⟩ := x
      have h0 := (hel 0 (by omega)).1
      have hspot : spot = none := by simpa [Addr.add] using World.cell?_spot h0
      subst hspot
      have hbW : b < W.heap.size := by
        have := World.block_lt_of_cell? W _ h0
        rw [ad_block] at this
        exact this
      refine ⟨f, hbound, .inr ⟨b, off, rfl, hbW, fun k hk => ⟨V k, ?_, hF k (by omega)⟩⟩⟩
      have := (hel k (by omega)).1
      rw [add_at] at this
      exact this

theorem open_bytesC {H : Type} {enc : TypeId × Value → H} {W : World} {base : Nat} {held : Bool} {a : Option Addr} {len cap : Nat} {d : DataW H} {p : List MemPlace}
    (h : DataW.Trod enc Tryd.prog W base (fun _ => true) held 56 (.slice a len cap) d p) : ∃ l, BsC W (.slice a len cap) l := by
  obtain ⟨fuel, hf⟩ := h
  exact open_bsc hf
end Go.Proofs.YtjejghfeeonghaaDoor.Se
