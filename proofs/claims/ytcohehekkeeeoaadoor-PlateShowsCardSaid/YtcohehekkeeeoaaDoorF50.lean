/- What came in, where it is numbers all through. -/
import Derived.Test.YtcohehekkeeeoaaDoorF08
import Derived.Deep.Slices
import Derived.Handed
import Derived.ChangeSame
import Derived.ChangeArms
import Derived.SizedLaws
import Derived.OpenShut
namespace Go.Proofs.YtcohehekkeeeoaaDoor.Ni
open Go.ChangeShapes Go.WideShapes Go.RowKit Go.Deep Go.Proofs.YtcohehekkeeeoaaDoor
set_option linter.unusedVariables false

/-- a slice of things of so many numbers each -/
def Nums (c : Nat) (w : World) (a : Option Addr) (n : Nat) (L : Nat → Int) : Prop :=
  n * (c * 8) ≤ 140737488351232 ∧ (n = 0 ∨ ∃ b off, a = some ⟨b, off, none⟩ ∧ b < w.heap.size ∧ ∀ j, j < n * c → w.cell? ⟨b, off + j, none⟩ = some (.int .i64 (L j)))

theorem Nums.on {c : Nat} {w w' : World} {a : Option Addr} {n : Nat} {L : Nat → Int} (h : Nums c w a n L) (hb : Below w.heap.size w w') : Nums c w' a n L := by
  obtain ⟨h0, h | ⟨b, off, rfl, hlt, hc⟩⟩ := h
  · exact ⟨h0, .inl h⟩
  · exact ⟨h0, .inr ⟨b, off, rfl, Nat.lt_of_lt_of_le hlt hb.size, fun j hj => (hb.cell (p := ⟨b, off + j, none⟩) hlt).trans (hc j hj)⟩⟩

theorem Nums.congr {c : Nat} {w : World} {a : Option Addr} {n : Nat} {L M : Nat → Int} (h : Nums c w a n L) (he : ∀ j, j < n * c → L j = M j) : Nums c w a n M := by
  obtain ⟨h0, h | ⟨b, off, rfl, hlt, hc⟩⟩ := h
  · exact ⟨h0, .inl h⟩
  · exact ⟨h0, .inr ⟨b, off, rfl, hlt, fun j hj => by rw [hc j hj, he j hj]⟩⟩


/-- so many cells, each a number -/
def Ints (c : Nat) (cs : List Value) : Prop := ∀ j, j < c → ∃ z, cs[j]? = some (.int .i64 z)

section
variable {H : Type} {enc : TypeId × Value → H} {W : World} {base : Nat} {sp : Nat → Bool} {held : Bool}

theorem ints_int {t : TypeId} {n : Nat} {cs : List Value} {y : DataW H × List MemPlace} (ht : Tryd.prog.underlying t = some (.int .i64)) (h : DataW.trod enc Tryd.prog W base sp held n t cs = some y) : Ints 1 cs := by
  obtain ⟨z, e, -, -⟩ := DataW.trod_int ht h
  subst e
  intro j hj
  obtain rfl : j = 0 := by omega
  exact ⟨z, rfl⟩

theorem ints_arr {t e : TypeId} {n c k : Nat} {cs : List Value} {y : DataW H × List MemPlace} (ht : Tryd.prog.underlying t = some (.array k e)) (hc : Tryd.prog.cellsOf e = c) (hc0 : 0 < c) (he : ∀ m cs y, DataW.trod enc Tryd.prog W base sp held m e cs = some y → Ints c cs) (h : DataW.trod enc Tryd.prog W base sp held n t cs = some y) : Ints (k * c) cs := by
  obtain ⟨xs, m, -, -, -, hl, hd⟩ := DataW.trod_array ht h
  intro j hj
  have hi : j / c < k := (Nat.div_lt_iff_lt_mul hc0).2 hj
  have h1 := hd (j / c) hi
  rw [List.getElem?_eq_getElem (by omega)] at h1
  obtain ⟨z, hz⟩ := he _ _ _ h1 (j % c) (Nat.mod_lt _ hc0)
  rw [hc, List.getElem?_take, if_pos (Nat.mod_lt _ hc0), List.getElem?_drop] at hz
  refine ⟨z, ?_⟩
  rw [← hz, Nat.mul_comm, Nat.div_add_mod]

theorem ints_part {o c : Nat} {cs : List Value} (h : Ints c ((cs.drop o).take c)) : ∀ j, j < c → ∃ z, cs[o + j]? = some (.int .i64 z) := fun j hj => by
  obtain ⟨z, hz⟩ := h j hj
  rw [List.getElem?_take, if_pos hj, List.getElem?_drop] at hz
  exact ⟨z, hz⟩


theorem cz_i64 : Tryd.prog.cellsOf 2 = 1 := by kernel_rfl

theorem cz_int : Tryd.prog.cellsOf 3 = 1 := by kernel_rfl

theorem cz_vec : Tryd.prog.cellsOf 73 = 3 := by kernel_rfl

theorem ints_vec {n : Nat} {cs : List Value} {y : DataW H × List MemPlace} (h : DataW.trod enc Tryd.prog W base sp held n 73 cs = some y) : Ints 3 cs :=
  ints_arr (c := 1) Tryd.underlying73 cz_i64 (by omega) (fun _ _ _ h => ints_int Tryd.underlying2 h) h

end

section
variable {H : Type} {enc : TypeId × Value → H} {W : World} {base : Nat} {held : Bool}

/-- a row of things of so many numbers, read -/
theorem open_nums {t e : TypeId} {c n : Nat} {cs : List Value} {y : DataW H × List MemPlace} (ht : Tryd.prog.underlying t = some (.slice e)) (hc : Tryd.prog.cellsOf e = c) (hc0 : 0 < c) (hb : Tryd.prog.bytesOf e = c * 8)
    (he : ∀ m cs y, DataW.trod enc Tryd.prog W base (fun _ => true) held m e cs = some y → Ints c cs) (h : DataW.trod enc Tryd.prog W base (fun _ => true) held n t cs = some y) (hlt : ∀ x ∈ y.2, x.block < W.heap.size)
    (hs : ∀ m ∈ y.1.weights Tryd.prog t, m ≤ reachBytes) : ∃ a len cap L, cs = [.slice a len cap] ∧ Nums c W a len L := by
  rcases open_slice ht h with ⟨hcs, -⟩ | ⟨x, l, cp, m, f, D, Pl, hcs, -, hl, -, hmm, hx, hel⟩
  · exact ⟨none, 0, 0, fun _ => 0, hcs, by omega, .inl rfl⟩
  · simp only [if_true] at hmm
    subst hx
    have hw := hs ((((List.range l).map D).length + ((List.range (m - l)).map fun j => D (l + j)).length) * Tryd.prog.bytesOf e) (by simp [DataW.weights, ht])
    rw [hb] at hw
    simp only [List.length_map, List.length_range, reachBytes] at hw
    have hbd : l * (c * 8) ≤ 140737488351232 := Nat.le_trans (Nat.mul_le_mul_right _ (by omega)) hw
    by_cases hl0 : l = 0
    · exact ⟨_, _, _, fun _ => 0, hcs, hbd, .inl hl0⟩
    · have hall : ∀ j, j < m * c → ∃ z : Int, W.cell? ((x.add (j / c * c)).add (j % c)) = some (.int .i64 z) := fun j hj => by
        have hi : j / c < m := (Nat.div_lt_iff_lt_mul hc0).2 hj
        obtain ⟨cs', h1, h2⟩ := hel (j / c) hi
        rw [hc] at h1
        obtain ⟨_, hlen, hcc⟩ := World.cells?_some h1
        obtain ⟨z, hz⟩ := he _ _ _ h2 (j % c) (Nat.mod_lt _ hc0)
        exact ⟨z, by rw [hcc _ (Nat.mod_lt _ hc0)]; exact hz⟩
      obtain ⟨L, hL⟩ := choose_lt (α := Int) (n := m * c) (p := fun j z => W.cell? ((x.add (j / c * c)).add (j % c)) = some (.int .i64 z)) hall
      simp only [add_add] at hL
      obtain ⟨b, off, spot⟩ := x
      have hspot : spot = none := by simpa [Addr.add] using World.cell?_spot (hL 0 (by have := Nat.mul_le_mul (show 1 ≤ m by omega) (show 1 ≤ c by omega); omega))
      subst hspot
      have hbW : b < W.heap.size := hlt (.cell b off) (List.mem_append_left _ (MemPlace.mem_row.2 ⟨0, by rw [hc]; have := Nat.mul_le_mul (show 1 ≤ m by omega) (show 1 ≤ c by omega); omega, by simp⟩))
      refine ⟨_, _, _, L, hcs, hbd, .inr ⟨b, off, rfl, hbW, fun j hj => ?_⟩⟩
      have := hL j (Nat.lt_of_lt_of_le hj (Nat.mul_le_mul_right _ (by omega)))
      rw [add_plain, Nat.mul_comm (j / c) c, Nat.div_add_mod] at this
      exact this
end

section
variable {H : Type} {enc : TypeId × Value → H} {W : World} {base : Nat} {sp : Nat → Bool} {held : Bool}
/-- a struct of so many numbers, read -/
theorem open_agg {t : TypeId} {c : Nat} {v : Value} {d : DataW H} {p : List MemPlace} (hc : Tryd.prog.cellsOf t = c) (hv : ∃ cs : Array Value, v = .agg cs ∧ cs.size = Tryd.prog.cellsOf t) (he : ∀ m cs y, DataW.trod enc Tryd.prog W base sp held m t cs = some y → Ints c cs)
    (h : DataW.Trod enc Tryd.prog W base sp held t v d p) : ∃ L : Nat → Int, v = .agg ((List.range c).map fun j => .int .i64 (L j)).toArray := by
  obtain ⟨cs, rfl, hsz⟩ := hv
  obtain ⟨fuel, hf⟩ := h
  obtain ⟨l⟩ := cs
  simp only [Value.cells] at hf
  have hi := he _ _ _ hf
  simp only [List.size_toArray] at hsz
  rw [hc] at hsz
  obtain ⟨L, hL⟩ := choose_lt (α := Int) (n := c) (p := fun j z => l[j]? = some (.int .i64 z)) hi
  refine ⟨L, ?_⟩
  have e : l = (List.range c).map fun j => .int .i64 (L j) := by
   apply List.ext_getElem?
   intro j
   by_cases hj : j < c
   · rw [hL j hj]; simp [hj]
   · rw [List.getElem?_eq_none (by omega), List.getElem?_eq_none (by simp; omega)]
  rw [e]

end

end Go.Proofs.YtcohehekkeeeoaaDoor.Ni
