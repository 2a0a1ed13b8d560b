/- What a slice of values that came in is: each value's cells lie behind its address, and its bytes behind their own. -/
import Derived.Test.YtgabpmoibmhigaaRle
import Derived.Test.YtgabpmoibmhigaaRfb
import Derived.Deep.Slices
import Derived.Handed
import Derived.ChangeSame
import Derived.ChangeArms
namespace Go.Proofs.Ytgabpmoibmhigaa.Re
open Go.ChangeShapes Go.WideShapes Go.RowKit Go.Deep Go.Proofs.Ytgabpmoibmhigaa.Rp

instance : Inhabited It := ⟨⟨0, 0, 0, 0, 0, [], none, 0, 0, [], 0⟩⟩

theorem cells_item : Try.prog.cellsOf 33 = 39 := by kernel_rfl
theorem cells_int1 : Try.prog.cellsOf 3 = 1 := by kernel_rfl
theorem cells_i641 : Try.prog.cellsOf 2 = 1 := by kernel_rfl
theorem cells_u81 : Try.prog.cellsOf 5 = 1 := by kernel_rfl
theorem cells_vec33 : Try.prog.cellsOf 30 = 3 := by kernel_rfl
theorem cells_d32 : Try.prog.cellsOf 31 = 32 := by kernel_rfl
theorem cells_bs1 : Try.prog.cellsOf 28 = 1 := by kernel_rfl

theorem take1 {cs : List Value} {i : Nat} {v : Value} (h : (cs.drop i).take 1 = [v]) : cs[i]? = some v := by
  have := congrArg (fun l => l[0]?) h
  simp [List.getElem?_drop] at this
  exact this

theorem int_at {H : Type} {enc : TypeId × Value → H} {W : World} {base : Nat} {sp : Nat → Bool} {held : Bool} {n : Nat} {t : TypeId} {k : IntKind} {cs : List Value} {y : DataW H × List MemPlace}
    (ht : Try.prog.underlying t = some (.int k)) (h : DataW.trod enc Try.prog W base sp held n t cs = some y) : ∃ z, cs = [.int k z] ∧ (Lit.int k z).wf = true := by
  obtain ⟨z, e, -, wz⟩ := DataW.trod_int ht h
  exact ⟨z, e, wz⟩

theorem item_of {H : Type} {enc : TypeId × Value → H} {W : World} {base : Nat} {held : Bool} {n : Nat} {cs : List Value} {y : DataW H × List MemPlace}
    (_hl : cs.length = 39) (h : DataW.trod enc Try.prog W base (fun _ => true) held n 33 cs = some y) :
    ∃ x : It, ItOk x ∧ (∀ (j : Nat) (v : Value), x.cells[j]? = some v → cs[j]? = some v) ∧ Bs W (.slice x.a x.plen x.pcap) x.p := by
  obtain ⟨xs, m, -, -, -, hlen, hf⟩ := DataW.trod_struct Try.underlying33 h
  match xs, hlen with
  | [y0, y1, y2, y3, y4, y5], _ =>
    have h0 : DataW.trod enc Try.prog W base (fun _ => true) held m 3 ((cs.drop 0).take (Try.prog.cellsOf 3)) = some y0 := hf 0 _ rfl
    have h1 : DataW.trod enc Try.prog W base (fun _ => true) held m 2 ((cs.drop 1).take (Try.prog.cellsOf 2)) = some y1 := hf 1 _ rfl
    have h2 : DataW.trod enc Try.prog W base (fun _ => true) held m 30 ((cs.drop 2).take (Try.prog.cellsOf 30)) = some y2 := hf 2 _ rfl
    have h3 : DataW.trod enc Try.prog W base (fun _ => true) held m 31 ((cs.drop 5).take (Try.prog.cellsOf 31)) = some y3 := hf 3 _ rfl
    have h4 : DataW.trod enc Try.prog W base (fun _ => true) held m 28 ((cs.drop 37).take (Try.prog.cellsOf 28)) = some y4 := hf 4 _ rfl
    have h5 : DataW.trod enc Try.prog W base (fun _ => true) held m 3 ((cs.drop 38).take (Try.prog.cellsOf 3)) = some y5 := hf 5 _ rfl
    clear hf
    rw [cells_int1] at h0 h5
    rw [cells_i641] at h1
    rw [cells_vec33] at h2
    rw [cells_d32] at h3
    rw [cells_bs1] at h4
    obtain ⟨kd, e0, -⟩ := int_at Try.underlying3 h0
    obtain ⟨nn, e1, w1⟩ := int_at Try.underlying2 h1
    obtain ⟨mo, e5, w5⟩ := int_at Try.underlying3 h5
    obtain ⟨pa, pl, pc, p, e4, hbs⟩ := open_bytes0 h4
    obtain ⟨x2, m2, -, -, -, hl2, hv⟩ := DataW.trod_array Try.underlying30 h2
    obtain ⟨x3, m3, -, -, -, hl3, hd⟩ := DataW.trod_array Try.underlying31 h3
    rw [cells_i641] at hv
    rw [cells_u81] at hd
    have hvv : ∀ i, i < 3 → ∃ z, cs[2 + i]? = some (.int .i64 z) := fun i hi => by
      have h := hv i hi
      rw [List.getElem?_eq_getElem (by omega)] at h
      obtain ⟨z, e, -⟩ := int_at Try.underlying2 h
      have e2 := take1 e
      rw [Nat.mul_one, List.getElem?_take, if_pos hi, List.getElem?_drop] at e2
      exact ⟨z, e2⟩
    have hdd : ∀ i, i < 32 → ∃ z, cs[5 + i]? = some (.int .u8 z) ∧ 0 ≤ z ∧ z ≤ 255 := fun i hi => by
      have h := hd i hi
      rw [List.getElem?_eq_getElem (by omega)] at h
      obtain ⟨z, e, w⟩ := int_at Try.underlying5 h
      have e2 := take1 e
      rw [Nat.mul_one, List.getElem?_take, if_pos hi, List.getElem?_drop] at e2
      exact ⟨z, e2, bounds_u8 w⟩
    obtain ⟨v0, ev0⟩ := hvv 0 (by omega)
    obtain ⟨v1, ev1⟩ := hvv 1 (by omega)
    obtain ⟨v2, ev2⟩ := hvv 2 (by omega)
    obtain ⟨f, hF⟩ := choose_lt (α := Int) (n := 32) (p := fun i z => cs[5 + i]? = some (.int .u8 z) ∧ 0 ≤ z ∧ z ≤ 255) hdd
    have ek := take1 e0
    have en := take1 e1
    have em := take1 e5
    have ep := take1 e4
    have hw1 := bounds_i64 w1
    have hw5 := bounds_i64 w5
    have hpl : pl = p.length := bs_len hbs
    let x : It := { kind := kd, n := nn, v0 := v0, v1 := v1, v2 := v2, d := (List.range 32).map fun i => UInt8.ofNat (f i).toNat, a := pa, plen := pl, pcap := pc, p := p, most := mo }
    have hx : ItOk x := ⟨by simp [x], fun hp => by show pl ≤ 3000; have hp' : p.length ≤ 3000 := hp; omega, hw1, hw5⟩
    refine ⟨x, hx, fun j v hj => ?_, hbs⟩
    have hc : j = 0 ∨ j = 1 ∨ j = 2 ∨ j = 3 ∨ j = 4 ∨ (5 ≤ j ∧ j < 37) ∨ j = 37 ∨ j = 38 ∨ 39 ≤ j := by omega
    rcases hc with rfl | rfl | rfl | rfl | rfl | ⟨h5, h37⟩ | rfl | rfl | h39
    · rw [ek]; exact hj
    · rw [en]; exact hj
    · rw [ev0]; exact hj
    · rw [ev1]; exact hj
    · rw [ev2]; exact hj
    · obtain ⟨i, rfl⟩ : ∃ i, j = 5 + i := ⟨j - 5, by omega⟩
      rw [It.cell_d hx i (by omega)] at hj
      obtain ⟨g1, g2, g3⟩ := hF i (by omega)
      rw [g1, ← hj]
      simp only [vals, x, List.map_map]
      rw [List.getElem?_map, List.getElem?_range (by omega)]
      simp only [Option.map, Function.comp]
      rw [UInt8.toNat_ofNat_of_lt' (by simp [UInt8.size]; omega)]
      congr 2
      omega
    · rw [ep, ← It.cell_p hx]; exact hj
    · rw [em, ← It.cell_m hx]; exact hj
    · rw [List.getElem?_eq_none (by rw [It.cells_length hx]; omega)] at hj; cases hj

theorem open_items {H : Type} {enc : TypeId × Value → H} {W : World} {base : Nat} {held : Bool} {a : Option Addr} {len cap : Nat} {d : DataW H} {p : List MemPlace}
    (h : DataW.Trod enc Try.prog W base (fun _ => true) held 22 (.slice a len cap) d p) (hlt : ∀ x ∈ p, x.block < W.heap.size) (hs : ∀ es sp, d = .slice es sp → (es.length + sp.length) * Try.prog.bytesOf 33 ≤ reachBytes) :
    ∃ L, len ≤ 140737488355328 ∧ Items W a L len := by
  obtain ⟨fuel, hf⟩ := h
  rcases open_slice Try.underlying22 hf with ⟨hcs, _⟩ | ⟨x, l, c, m, n, D, Pl, hcs, _, hl, _, hmm, hx, hel⟩
  · simp [Value.cells] at hcs
    exact ⟨fun _ => ⟨0, 0, 0, 0, 0, [], none, 0, 0, [], 0⟩, by omega, .inl hcs.2.1⟩
  · simp [Value.cells] at hcs
    obtain ⟨rfl, rfl, rfl⟩ := hcs
    simp only [if_true] at hmm
    simp only [Prod.mk.injEq] at hx
    obtain ⟨rfl, rfl⟩ := hx
    have hw := hs _ _ rfl
    rw [show Try.prog.bytesOf 33 = 104 by kernel_rfl] at hw
    simp only [List.length_map, List.length_range, reachBytes] at hw
    have hbound : len ≤ 140737488355328 := by omega
    by_cases hl0 : len = 0
    · exact ⟨fun _ => ⟨0, 0, 0, 0, 0, [], none, 0, 0, [], 0⟩, hbound, .inl hl0⟩
    · have hall : ∀ i, i < m → ∃ y : It, ItOk y ∧ (∀ (j : Nat) (v : Value), y.cells[j]? = some v → W.cell? ((x.add (i * 39)).add j) = some v) ∧ Bs W (.slice y.a y.plen y.pcap) y.p := fun i hi => by
        obtain ⟨cs', h1, h2⟩ := hel i hi
        rw [cells_item] at h1
        obtain ⟨_, hlen, hc⟩ := World.cells?_some h1
        obtain ⟨y, k1, k2, k3⟩ := item_of hlen h2
        refine ⟨y, k1, fun j v hj => ?_, k3⟩
        have hj39 : j < 39 := by have := (List.getElem?_eq_some_iff.1 hj).1; rw [It.cells_length k1] at this; exact this
        rw [hc j hj39]; exact k2 j v hj
      obtain ⟨f, hF⟩ := choose_lt (α := It) (n := m) (p := fun i y => ItOk y ∧ (∀ (j : Nat) (v : Value), y.cells[j]? = some v → W.cell? ((x.add (i * 39)).add j) = some v) ∧ Bs W (.slice y.a y.plen y.pcap) y.p) hall
      simp only [add_add] at hF
      obtain ⟨b, off, spot⟩ := x
      have hspot : spot = none := by simpa [Addr.add] using World.cell?_spot ((hF 0 (by omega)).2.1 0 (.int .i64 (f 0).kind) rfl)
      subst hspot
      have hbW : b < W.heap.size := hlt (.cell b off) (List.mem_append_left _ (MemPlace.mem_row.2 ⟨0, by rw [cells_item]; omega, by simp⟩))
      refine ⟨f, hbound, .inr ⟨b, off, rfl, hbW, fun k hk => ?_⟩⟩
      obtain ⟨g1, g2, g3⟩ := hF k (by omega)
      refine ⟨g1, fun j v hj => ?_, g3⟩
      have := g2 j v hj
      rw [add_plain] at this
      rw [Nat.add_assoc]
      exact this
end Go.Proofs.Ytgabpmoibmhigaa.Re
