/- What a slice of bytes that came in is: nil, or its bytes lie behind its address. -/
import Derived.Test.YtfbppiamlolfpaaC02
import Derived.ProofKit
import Derived.SizedLaws
import Derived.ChangeSlices
import Derived.WideShapes
import Derived.Test.YtfbppiamlolfpaaRows
import Derived.Test.YtfbppiamlolfpaaC50
import Derived.Test.YtfbppiamlolfpaaC53
import Derived.OpenShut
import Derived.ShutString
import Derived.ChangeOld
import Derived.Below
namespace Go.Proofs.Ytfbppiamlolfpaa.Re
open Go.ChangeShapes Go.WideShapes Go.RowKit Go.Proofs.Ytfbppiamlolfpaa.Rp

/-- numbers of bytes, as bytes -/
def toBytes (zs : List Int) : List UInt8 := zs.map fun z => UInt8.ofNat z.toNat
theorem toBytes_vals (zs : List Int) (h : ∀ n ∈ zs, (Lit.int .u8 n).wf = true) : vals (toBytes zs) = zs.map (Value.int .u8) := by
  simp only [vals, toBytes, List.map_map]
  refine List.map_congr_left fun z hz => ?_
  have := bounds_u8 (h z hz)
  simp only [Function.comp]
  congr 1
  rw [UInt8.toNat_ofNat_of_lt' (by simp [UInt8.size]; omega)]
  omega

theorem open_bytes0 {H : Type} {enc : TypeId × Value → H} {W : World} {base : Nat} {held : Bool} {fuel : Nat} {cs : List Value} {x : DataW H × List MemPlace}
    (hf : DataW.trod enc Try.prog W base (fun _ => true) held fuel 33 cs = some x) : ∃ a len cap l, cs = [.slice a len cap] ∧ Bs W (.slice a len cap) l := by
  rcases open_ints Try.underlying33 Try.underlying5 (by kernel_rfl) hf with ⟨hcs, _⟩ | ⟨a, len, cap, zs, hcs, _, hl, hm, hz, hx, hcell, hwz⟩
  · exact ⟨none, 0, 0, [], hcs, .inl ⟨rfl, rfl⟩⟩
  · simp only [if_true] at hz
    have hlen : (toBytes (zs.take len)).length = len := by simp [toBytes]; omega
    refine ⟨some a, len, cap, toBytes (zs.take len), hcs, .inr ⟨a, cap, by rw [hlen], fun j u hu => ?_⟩⟩
    rw [toBytes_vals _ (fun n hn => hwz n (List.mem_of_mem_take hn))] at hu
    rw [List.getElem?_map, List.getElem?_take] at hu
    split at hu
    · rename_i hj
      have := hcell j (by omega)
      rw [this]
      have e : zs[j]? = some (zs.getD j 0) := by simp [List.getD, show j < zs.length by omega]
      rw [e] at hu
      simpa using hu
    · simp at hu

theorem open_bytes {H : Type} {enc : TypeId × Value → H} {W : World} {base : Nat} {held : Bool} {fuel : Nat} {cs : List Value} {x : DataW H × List MemPlace}
    (hf : DataW.trod enc Try.prog W base (fun _ => true) held fuel 33 cs = some x) (hs : ∀ es sp, x.1 = .slice es sp → (es.length + sp.length) * Try.prog.bytesOf 5 ≤ reachBytes) :
    ∃ a len cap l, cs = [.slice a len cap] ∧ Bs W (.slice a len cap) l ∧ len ≤ 140737488351232 := by
  rcases open_ints Try.underlying33 Try.underlying5 (by kernel_rfl) hf with ⟨hcs, _⟩ | ⟨a, len, cap, zs, hcs, _, hl, hm, hz, hx, hcell, hwz⟩
  · exact ⟨none, 0, 0, [], hcs, .inl ⟨rfl, rfl⟩, by omega⟩
  · simp only [if_true] at hz
    have hw := hs _ _ (by rw [hx])
    rw [show Try.prog.bytesOf 5 = 1 by kernel_rfl] at hw
    simp only [lits, List.length_map, List.length_take, List.length_drop, reachBytes] at hw
    have hlen : (toBytes (zs.take len)).length = len := by simp [toBytes]; omega
    refine ⟨some a, len, cap, toBytes (zs.take len), hcs, .inr ⟨a, cap, by rw [hlen], fun j u hu => ?_⟩, by omega⟩
    rw [toBytes_vals _ (fun n hn => hwz n (List.mem_of_mem_take hn))] at hu
    rw [List.getElem?_map, List.getElem?_take] at hu
    split at hu
    · rename_i hj
      have := hcell j (by omega)
      rw [this]
      have e : zs[j]? = some (zs.getD j 0) := by simp [List.getD, show j < zs.length by omega]
      rw [e] at hu
      simpa using hu
    · simp at hu

theorem open_bytes_arg {H : Type} {enc : TypeId × Value → H} {W : World} {base : Nat} {held : Bool} {a : Option Addr} {len cap : Nat} {d : DataW H} {p : List MemPlace}
    (h : DataW.Trod enc Try.prog W base (fun _ => true) held 33 (.slice a len cap) d p) (hs : ∀ es sp, d = .slice es sp → (es.length + sp.length) * Try.prog.bytesOf 5 ≤ reachBytes) :
    ∃ l, len ≤ 140737488355328 ∧ Bs W (.slice a len cap) l := by
  obtain ⟨fuel, hf⟩ := h
  obtain ⟨a', len', cap', l, hcs, hb, hl⟩ := open_bytes hf (fun es sp hd => hs es sp hd)
  simp [Value.cells] at hcs
  obtain ⟨rfl, rfl, rfl⟩ := hcs
  exact ⟨l, by omega, hb⟩
end Go.Proofs.Ytfbppiamlolfpaa.Re

/- JobChecks (zoetropelaw09): for every input the law returns true, and what came in reads as it did. -/
namespace Go.Proofs.Ytfbppiamlolfpaa.jobChecks
open Go.ChangeShapes Go.WideShapes Go.ChangeAt Go.RowKit Go.Proofs.Ytfbppiamlolfpaa
open Go.ChangeMaps (open_string shut_string)
set_option linter.unusedVariables false

theorem own : ownKnob Try.prog.godebug = none := by kernel_rfl
theorem laidOut : laidOutB Try.prog = true := by kernel_rfl

set_option maxRecDepth 100000 in
theorem lifted (os : Os) (started : os.Started) (H : Type) (enc : TypeId × Value → H) :
    ReturnsInHanded {} Try.checked os 3 .any (Rows.jobChecksSpec.pre6 enc Try.prog Try.f3 Rows.jobChecksRow.domain false) (Rows.jobChecksSpec.post enc Try.prog Try.f3 false true false false) := by
  refine returnsInHanded_of_change_sized (C := Try.checked) own started (by kernel_rfl) Try.func3
    (ChangeSpec.witness6 (enc := enc) (C := Try.checked) false ⟨#[], #[.agg #[.int .i64 0, .int .i64 0, .int .i64 0, .int .i64 0, .int .i64 0, .int .i64 0, .int .u64 0, .int .i64 0, .int .i64 0, .int .i64 0, .int .i64 0, .int .i64 0, .int .i64 0, .slice none 0 0, .slice none 0 0, .slice none 0 0, .slice none 0 0], .slice none 0 0], []⟩ 12 (by kernel_rfl) (by kernel_rfl) (by kernel_rfl) (by kernel_rfl)) ?_
  intro W base args ds gs before hval0 hW hcnd hsz _
  have hval : ∀ (j : Nat) t v, Try.f3.params[j]? = some t → args[j]? = some v → Value.okWide Try.prog W .any base t v := hval0
  have hW' := hW
  obtain ⟨p, q, hA0, hV, rfl, hfz, hnd⟩ := hW
  have hA : DataW.TrodAll enc Try.prog W 0 (fun _ => true) true Try.f3.params.toList args.toList ds p := hA0
  rw [Try.params3] at hA hval hsz
  obtain ⟨v0, vs0, d0, ds0, p0, q0, hargs, rfl, rfl, h0, r0⟩ := trodAll_cons hA
  obtain ⟨v1, vs1, d1, ds1, p1, q1, rfl, rfl, rfl, h1, r1⟩ := trodAll_cons r0
  obtain ⟨rfl, rfl, rfl⟩ := trodAll_nil r1
  obtain rfl : args = #[v0, v1] := by cases args; simp_all
  obtain ⟨rfl, rfl⟩ := trodVars_none hV
  have k0 := h0
  have lt0 : ∀ x ∈ p0, x.block < W.heap.size := by obtain ⟨m, hm⟩ := k0; exact DataW.trod_lt m _ _ _ hm
  obtain ⟨s, a, rfl, hs⟩ := Sc.open_scene (hval 0 32 v0 rfl rfl) h0 lt0 (fun n hn => by have := List.all_eq_true.1 hsz n (DataW.weights_mem_each (j := 0) rfl rfl n hn); simpa using this)
  obtain ⟨a1, len1, cap1, rfl⟩ := okWide_slice Try.underlying33 (hval 1 33 v1 rfl rfl)
  have k1 := h1
  have lt1 : ∀ x ∈ p1, x.block < W.heap.size := by obtain ⟨m, hm⟩ := k1; exact DataW.trod_lt m _ _ _ hm
  obtain ⟨z1, m1, w1⟩ := Re.open_bytes_arg h1 fun es sp hd => sized_slice hsz (j := 1) (t := 33) (e := 5) rfl (by rw [← hd]; rfl) Try.underlying33
  clear hA0 hval0
  refine (Jb.checks9_walk s a a1 len1 cap1 z1 W hs w1 (Re.bs_len w1).symm).mono fun e W' ⟨he, bel⟩ => ?_
  subst he
  exact ⟨_, rfl, _, _, _, [], _, [], hW', trodAll_mk1 (shut_bool Try.underlying4 _), (trodAll_cons_mk (Below.trod laidOut (by kernel_rfl) (of_decide_eq_true (by kernel_rfl)) k0 bel lt0) (trodAll_cons_mk (Below.trod laidOut (by kernel_rfl) (of_decide_eq_true (by kernel_rfl)) k1 bel lt1) trodAll_mk0)), rfl, bel.frame _, fun h => by cases h⟩

theorem over : Rows.JobChecksSaid :=
  OpenClaim.holds_of_wide 3 Try.f3 rfl rfl rfl rfl rfl rfl rfl ⟨rfl, rfl, rfl, rfl, rfl⟩ rfl rfl rfl rfl rfl (by kernel_rfl) Try.func3 (by kernel_rfl)
    (of_decide_eq_true (by kernel_rfl)) (by unfold Func.isWrapper; first | (rw [if_pos (by decide +kernel)]; kernel_rfl) | (rw [if_neg (by decide +kernel)]; exact ⟨rfl, rfl⟩))
    (fun os started H enc _ => lifted os started H enc)

theorem proved : Rows.JobChecksSaid := over
#print axioms proved
end Go.Proofs.Ytfbppiamlolfpaa.jobChecks
