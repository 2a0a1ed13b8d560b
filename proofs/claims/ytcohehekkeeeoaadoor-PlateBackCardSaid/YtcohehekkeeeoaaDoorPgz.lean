/- Layer 21 (plate): a picture that came in. -/
import Derived.Test.YtcohehekkeeeoaaDoorPgt
import Derived.Test.YtcohehekkeeeoaaDoorNi
import Derived.Test.YtcohehekkeeeoaaDoorRfb
namespace Go.Proofs.YtcohehekkeeeoaaDoor.Pg
open Go Go.ChangeShapes Go.WideShapes Go.RowKit Go.Deep Go.Proofs.YtcohehekkeeeoaaDoor Go.Proofs.YtcohehekkeeeoaaDoor.Ni Go.Proofs.YtcohehekkeeeoaaDoor.Re
set_option linter.unusedVariables false
set_option linter.unusedSimpArgs false

/-- so many cells, each a byte -/
def Byt (c : Nat) (cs : List Value) : Prop := ∀ j, j < c → ∃ u : UInt8, cs[j]? = some (.int .u8 (u.toNat : Int))

section
variable {H : Type} {enc : TypeId × Value → H} {W : World} {base : Nat} {sp : Nat → Bool} {held : Bool}

theorem byt_u8 {t : TypeId} {n : Nat} {cs : List Value} {y : DataW H × List MemPlace} (ht : Tryd.prog.underlying t = some (.int .u8)) (h : DataW.trod enc Tryd.prog W base sp held n t cs = some y) : Byt 1 cs := by
  obtain ⟨z, e, -, hw⟩ := DataW.trod_int ht h
  subst e
  intro j hj
  obtain rfl : j = 0 := by omega
  simp [Lit.wf, IntKind.min, IntKind.max, IntKind.bits, IntKind.signed] at hw
  refine ⟨UInt8.ofNat z.toNat, ?_⟩
  rw [UInt8.toNat_ofNat_of_lt' (by simp [UInt8.size]; omega), Int.toNat_of_nonneg (by omega)]
  rfl

theorem byt_arr {t e : TypeId} {n c k : Nat} {cs : List Value} {y : DataW H × List MemPlace} (ht : Tryd.prog.underlying t = some (.array k e)) (hc : Tryd.prog.cellsOf e = c) (hc0 : 0 < c) (he : ∀ m cs y, DataW.trod enc Tryd.prog W base sp held m e cs = some y → Byt c cs) (h : DataW.trod enc Tryd.prog W base sp held n t cs = some y) : Byt (k * c) cs := by
  obtain ⟨xs, m, -, -, -, hl, hd⟩ := DataW.trod_array ht h
  intro j hj
  have hi : j / c < k := (Nat.div_lt_iff_lt_mul hc0).2 hj
  have h1 := hd (j / c) hi
  rw [List.getElem?_eq_getElem (by omega)] at h1
  obtain ⟨z, hz⟩ := he _ _ _ h1 (j % c) (Nat.mod_lt _ hc0)
  rw [hc, List.getElem?_take, if_pos (Nat.mod_lt _ hc0), List.getElem?_drop] at hz
  refine ⟨z, ?_⟩
  rw [← hz, Nat.mul_comm, Nat.div_add_mod]
end

section
variable {H : Type} {enc : TypeId × Value → H} {W : World} {base : Nat} {held : Bool}

theorem cz_u8 : Tryd.prog.cellsOf 5 = 1 := by kernel_rfl
theorem cz_d3 : Tryd.prog.cellsOf 69 = 3 := by kernel_rfl
theorem cz_sd : Tryd.prog.cellsOf 42 = 1 := by kernel_rfl
theorem cz_pic : Tryd.prog.cellsOf 52 = 3 := by kernel_rfl

theorem byt_d3 {sp : Nat → Bool} {n : Nat} {cs : List Value} {y : DataW H × List MemPlace} (h : DataW.trod enc Tryd.prog W base sp held n 69 cs = some y) : Byt 3 cs :=
  byt_arr (c := 1) Tryd.underlying69 cz_u8 (by omega) (fun _ _ _ h => byt_u8 Tryd.underlying5 h) h

theorem open_dots {n : Nat} {cs : List Value} {y : DataW H × List MemPlace} (h : DataW.trod enc Tryd.prog W base (fun _ => true) held n 42 cs = some y) : ∃ a len cap D, cs = [.slice a len cap] ∧ Dn W a len cap D := by
  rcases open_slice Tryd.underlying42 h with ⟨hcs, -⟩ | ⟨x, l, cp, m, f, D, Pl, hcs, -, hl, -, hmm, hx, hel⟩
  · exact ⟨none, 0, 0, [], hcs, ⟨rfl, fun j u hu => by simp [vals] at hu⟩, fun _ => ⟨rfl, rfl⟩⟩
  · simp only [if_true] at hmm
    subst hx
    have hall : ∀ j, j < m * 3 → ∃ z : UInt8, W.cell? ((x.add (j / 3 * 3)).add (j % 3)) = some (.int .u8 (z.toNat : Int)) := fun j hj => by
      have hi : j / 3 < m := (Nat.div_lt_iff_lt_mul (by omega)).2 hj
      obtain ⟨cs', h1, h2⟩ := hel (j / 3) hi
      rw [cz_d3] at h1
      obtain ⟨_, hlen, hcc⟩ := World.cells?_some h1
      obtain ⟨z, hz⟩ := byt_d3 h2 (j % 3) (Nat.mod_lt _ (by omega))
      exact ⟨z, by rw [hcc _ (Nat.mod_lt _ (by omega))]; exact hz⟩
    obtain ⟨L, hL⟩ := choose_lt (α := UInt8) (n := m * 3) (p := fun j z => W.cell? ((x.add (j / 3 * 3)).add (j % 3)) = some (.int .u8 (z.toNat : Int))) hall
    simp only [add_add] at hL
    refine ⟨_, _, _, (List.range (3 * l)).map L, hcs, ⟨by simp, fun j u hu => ?_⟩, fun h => by cases h⟩
    have hj : j < 3 * l := by
      have := (List.getElem?_eq_some_iff.1 hu).1
      simpa [vals] using this
    have hc := hL j (by omega)
    rw [Nat.mul_comm (j / 3) 3, Nat.div_add_mod] at hc
    obtain ⟨b, off, spot⟩ := x
    have hspot : spot = none := by simpa [Addr.add] using World.cell?_spot (hL 0 (by omega))
    subst hspot
    refine ⟨b, off, rfl, ?_⟩
    rw [add_at] at hc
    rw [hc]
    simp [vals, hj] at hu
    exact congrArg some hu

set_option maxRecDepth 100000 in
set_option maxHeartbeats 1000000 in
theorem open_pic {r : Reach} {bb : Nat} {v : Value} {d : DataW H} {p : List MemPlace} (hv : Value.okWide Tryd.prog W r bb 52 v) (h : DataW.Trod enc Tryd.prog W base (fun _ => true) held 52 v d p) : ∃ (x y : Int) (a : Option Addr) (n c : Nat) (D : List UInt8), v = .agg #[.int .i64 x, .int .i64 y, .slice a n c] ∧ Dn W a n c D := by
  obtain ⟨cs, rfl, hsz, _⟩ : ∃ cs, v = .agg cs ∧ cs.size = Tryd.prog.cellsOf 52 ∧ Row.okWide Tryd.prog W r bb 52 cs := by
    simpa [Value.okWide, Tryd.underlying52] using hv
  rw [cz_pic] at hsz
  obtain ⟨fuel, hfu⟩ := h
  simp only [Value.cells] at hfu
  obtain ⟨l⟩ := cs
  simp only [List.size_toArray] at hsz hfu
  obtain ⟨xs, m, -, hx, -, hlen, hh⟩ := DataW.trod_struct Tryd.underlying52 hfu
  simp only [Prod.mk.injEq] at hx
  obtain ⟨rfl, rfl⟩ := hx
  match xs, hlen with
  | [u0, u1, u2], _ =>
    have g0 : DataW.trod enc Tryd.prog W base (fun _ => true) held m 3 ((l.drop 0).take (Tryd.prog.cellsOf 3)) = some u0 := hh 0 _ rfl
    have g1 : DataW.trod enc Tryd.prog W base (fun _ => true) held m 3 ((l.drop 1).take (Tryd.prog.cellsOf 3)) = some u1 := hh 1 _ rfl
    have g2 : DataW.trod enc Tryd.prog W base (fun _ => true) held m 42 ((l.drop 2).take (Tryd.prog.cellsOf 42)) = some u2 := hh 2 _ rfl
    clear hh
    rw [cz_int] at g0 g1
    rw [cz_sd] at g2
    obtain ⟨w0, f0⟩ := ints_part (ints_int Tryd.underlying3 g0) 0 (by omega)
    obtain ⟨w1, f1⟩ := ints_part (ints_int Tryd.underlying3 g1) 0 (by omega)
    obtain ⟨al, nl, cl, D, e0, hD⟩ := open_dots g2
    have e0' : l[2]? = some (.slice al nl cl) := by
      have := congrArg (fun q => q[0]?) e0
      simpa using this
    match l, hsz with
    | [c0, c1, c2], _ =>
      simp at f0 f1 e0'
      subst f0 f1 e0'
      exact ⟨_, _, _, _, _, _, rfl, hD⟩
end
theorem open_ba {H : Type} {enc : TypeId × Value → H} {W : World} {base : Nat} {held : Bool} {fuel : Nat} {cs : List Value} {x : DataW H × List MemPlace}
    (hf : DataW.trod enc Tryd.prog W base (fun _ => true) held fuel 56 cs = some x) (hs : ∀ es sp, x.1 = .slice es sp → (es.length + sp.length) * Tryd.prog.bytesOf 5 ≤ reachBytes) :
    ∃ a len cap l, cs = [.slice a len cap] ∧ BA W a len cap l ∧ len ≤ 140737488351232 := by
  rcases open_ints Tryd.underlying56 Tryd.underlying5 (by kernel_rfl) hf with ⟨hcs, _⟩ | ⟨a, len, cap, zs, hcs, _, hl, hm, hz, hx, hcell, hwz⟩
  · exact ⟨none, 0, 0, [], hcs, ⟨rfl, Nat.le_refl _, fun j u hu => by simp [vals] at hu⟩, by omega⟩
  · simp only [if_true] at hz
    have hw := hs _ _ (by rw [hx])
    rw [show Tryd.prog.bytesOf 5 = 1 by kernel_rfl] at hw
    simp only [lits, List.length_map, List.length_take, List.length_drop, reachBytes] at hw
    have hlen : (toBytes (zs.take len)).length = len := by simp [toBytes]; omega
    refine ⟨some a, len, cap, toBytes (zs.take len), hcs, ⟨hlen.symm, by omega, fun j u hu => ⟨a, rfl, ?_⟩⟩, by omega⟩
    rw [toBytes_vals _ (fun n hn => hwz n (List.mem_of_mem_take hn))] at hu
    rw [List.getElem?_map, List.getElem?_take] at hu
    split at hu
    · rename_i hj
      have := hcell j (by omega)
      rw [this]
      have e : zs[j]? = some (zs.getD j 0) := by simp [List.getD, show j < zs.length by omega]
      rw [e] at hu
      simpa using hu
    · simp at hu

theorem open_ba_arg {H : Type} {enc : TypeId × Value → H} {W : World} {base : Nat} {held : Bool} {a : Option Addr} {len cap : Nat} {d : DataW H} {p : List MemPlace}
    (h : DataW.Trod enc Tryd.prog W base (fun _ => true) held 56 (.slice a len cap) d p) (hs : ∀ es sp, d = .slice es sp → (es.length + sp.length) * Tryd.prog.bytesOf 5 ≤ reachBytes) :
    ∃ l, len ≤ 140737488351232 ∧ BA W a len cap l := by
  obtain ⟨fuel, hf⟩ := h
  obtain ⟨a', len', cap', l, hcs, hb, hl⟩ := open_ba hf (fun es sp hd => hs es sp hd)
  simp [Value.cells] at hcs
  obtain ⟨rfl, rfl, rfl⟩ := hcs
  exact ⟨l, by omega, hb⟩

end Go.Proofs.YtcohehekkeeeoaaDoor.Pg
