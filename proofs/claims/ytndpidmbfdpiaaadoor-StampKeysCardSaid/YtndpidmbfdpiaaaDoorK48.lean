/- What a slice of bytes that came in is: nil, or its bytes lie behind its address. -/
import Derived.Test.YtndpidmbfdpiaaaDoorK10
import Derived.ProofKit
import Derived.SizedLaws
import Derived.ChangeSlices
import Derived.WideShapes
namespace Go.Proofs.YtndpidmbfdpiaaaDoor.Re
open Go.ChangeShapes Go.WideShapes Go.RowKit Go.Proofs.YtndpidmbfdpiaaaDoor.Rp

/-- numbers of bytes, as bytes -/
def toBytes (zs : List Int) : List UInt8 := zs.map fun z => UInt8.ofNat z.toNat
theorem toBytes_vals (zs : List Int) (h : ∀ n ∈ zs, (Lit.int .u8 n).wf = true) : vals (toBytes zs) = zs.map (Value.int .u8) := by
  simp only [vals, toBytes, List.map_map]
  refine List.map_congr_left fun z hz => ?_
  have := bounds_u8 (h z hz)
  simp only [Function.comp]
  congr 1
  rw [UInt8.toNat_ofNat_of_lt' (by simp [UInt8.size]; omega)]
  omega

theorem open_bytes0 {H : Type} {enc : TypeId × Value → H} {W : World} {base : Nat} {held : Bool} {fuel : Nat} {cs : List Value} {x : DataW H × List MemPlace}
    (hf : DataW.trod enc Tryd.prog W base (fun _ => true) held fuel 22 cs = some x) : ∃ a len cap l, cs = [.slice a len cap] ∧ Bs W (.slice a len cap) l := by
  rcases open_ints Tryd.underlying22 Tryd.underlying5 (by kernel_rfl) hf with ⟨hcs, _⟩ | ⟨a, len, cap, zs, hcs, _, hl, hm, hz, hx, hcell, hwz⟩
  · exact ⟨none, 0, 0, [], hcs, .inl ⟨rfl, rfl⟩⟩
  · simp only [if_true] at hz
    have hlen : (toBytes (zs.take len)).length = len := by simp [toBytes]; omega
    refine ⟨some a, len, cap, toBytes (zs.take len), hcs, .inr ⟨a, cap, by rw [hlen], fun j u hu => ?_⟩⟩
    rw [toBytes_vals _ (fun n hn => hwz n (List.mem_of_mem_take hn))] at hu
    rw [List.getElem?_map, List.getElem?_take] at hu
    split at hu
    · rename_i hj
      have := hcell j (by omega)
      rw [this]
      have e : zs[j]? = some (zs.getD j 0) := by simp [List.getD, show j < zs.length by omega]
      rw [e] at hu
      simpa using hu
    · simp at hu

theorem open_bytes {H : Type} {enc : TypeId × Value → H} {W : World} {base : Nat} {held : Bool} {fuel : Nat} {cs : List Value} {x : DataW H × List MemPlace}
    (hf : DataW.trod enc Tryd.prog W base (fun _ => true) held fuel 22 cs = some x) (hs : ∀ es sp, x.1 = .slice es sp → (es.length + sp.length) * Tryd.prog.bytesOf 5 ≤ reachBytes) :
    ∃ a len cap l, cs = [.slice a len cap] ∧ Bs W (.slice a len cap) l ∧ len ≤ 140737488351232 := by
  rcases open_ints Tryd.underlying22 Tryd.underlying5 (by kernel_rfl) hf with ⟨hcs, _⟩ | ⟨a, len, cap, zs, hcs, _, hl, hm, hz, hx, hcell, hwz⟩
  · exact ⟨none, 0, 0, [], hcs, .inl ⟨rfl, rfl⟩, by omega⟩
  · simp only [if_true] at hz
    have hw := hs _ _ (by rw [hx])
    rw [show Tryd.prog.bytesOf 5 = 1 by kernel_rfl] at hw
    simp only [lits, List.length_map, List.length_take, List.length_drop, reachBytes] at hw
    have hlen : (toBytes (zs.take len)).length = len := by simp [toBytes]; omega
    refine ⟨some a, len, cap, toBytes (zs.take len), hcs, .inr ⟨a, cap, by rw [hlen], fun j u hu => ?_⟩, by omega⟩
    rw [toBytes_vals _ (fun n hn => hwz n (List.mem_of_mem_take hn))] at hu
    rw [List.getElem?_map, List.getElem?_take] at hu
    split at hu
    · rename_i hj
      have := hcell j (by omega)
      rw [this]
      have e : zs[j]? = some (zs.getD j 0) := by simp [List.getD, show j < zs.length by omega]
      rw [e] at hu
      simpa using hu
    · simp at hu

theorem open_bytes_arg {H : Type} {enc : TypeId × Value → H} {W : World} {base : Nat} {held : Bool} {a : Option Addr} {len cap : Nat} {d : DataW H} {p : List MemPlace}
    (h : DataW.Trod enc Tryd.prog W base (fun _ => true) held 22 (.slice a len cap) d p) (hs : ∀ es sp, d = .slice es sp → (es.length + sp.length) * Tryd.prog.bytesOf 5 ≤ reachBytes) :
    ∃ l, len ≤ 140737488355328 ∧ Bs W (.slice a len cap) l := by
  obtain ⟨fuel, hf⟩ := h
  obtain ⟨a', len', cap', l, hcs, hb, hl⟩ := open_bytes hf (fun es sp hd => hs es sp hd)
  simp [Value.cells] at hcs
  obtain ⟨rfl, rfl, rfl⟩ := hcs
  exact ⟨l, by omega, hb⟩
end Go.Proofs.YtndpidmbfdpiaaaDoor.Re
