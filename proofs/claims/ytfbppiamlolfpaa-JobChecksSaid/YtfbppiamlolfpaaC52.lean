/- What a scene that came in is: rows of numbers, rows of tracks. -/
import Derived.Test.YtfbppiamlolfpaaC26
import Derived.Test.YtfbppiamlolfpaaC51
import Derived.Deep.Slices
import Derived.Handed
import Derived.ChangeSame
import Derived.ChangeArms
import Derived.SizedLaws
import Derived.OpenShut
namespace Go.Proofs.Ytfbppiamlolfpaa.Sc
open Go.ChangeShapes Go.WideShapes Go.RowKit Go.Deep Go.Proofs.Ytfbppiamlolfpaa Go.Proofs.Ytfbppiamlolfpaa.Tk
set_option linter.unusedVariables false

/-- so many cells, each a number -/
def Ints (c : Nat) (cs : List Value) : Prop := ∀ j, j < c → ∃ z, cs[j]? = some (.int .i64 z)

section
variable {H : Type} {enc : TypeId × Value → H} {W : World} {base : Nat} {sp : Nat → Bool} {held : Bool}

theorem ints_int {t : TypeId} {n : Nat} {cs : List Value} {y : DataW H × List MemPlace} (ht : Try.prog.underlying t = some (.int .i64)) (h : DataW.trod enc Try.prog W base sp held n t cs = some y) : Ints 1 cs := by
  obtain ⟨z, e, -, -⟩ := DataW.trod_int ht h
  subst e
  intro j hj
  obtain rfl : j = 0 := by omega
  exact ⟨z, rfl⟩

theorem ints_arr {t e : TypeId} {n c k : Nat} {cs : List Value} {y : DataW H × List MemPlace} (ht : Try.prog.underlying t = some (.array k e)) (hc : Try.prog.cellsOf e = c) (hc0 : 0 < c) (he : ∀ m cs y, DataW.trod enc Try.prog W base sp held m e cs = some y → Ints c cs) (h : DataW.trod enc Try.prog W base sp held n t cs = some y) : Ints (k * c) cs := by
  obtain ⟨xs, m, -, -, -, hl, hd⟩ := DataW.trod_array ht h
  intro j hj
  have hi : j / c < k := (Nat.div_lt_iff_lt_mul hc0).2 hj
  have h1 := hd (j / c) hi
  rw [List.getElem?_eq_getElem (by omega)] at h1
  obtain ⟨z, hz⟩ := he _ _ _ h1 (j % c) (Nat.mod_lt _ hc0)
  rw [hc, List.getElem?_take, if_pos (Nat.mod_lt _ hc0), List.getElem?_drop] at hz
  refine ⟨z, ?_⟩
  rw [← hz, Nat.mul_comm, Nat.div_add_mod]

theorem ints_part {o c : Nat} {cs : List Value} (h : Ints c ((cs.drop o).take c)) : ∀ j, j < c → ∃ z, cs[o + j]? = some (.int .i64 z) := fun j hj => by
  obtain ⟨z, hz⟩ := h j hj
  rw [List.getElem?_take, if_pos hj, List.getElem?_drop] at hz
  exact ⟨z, hz⟩

theorem cz_i64 : Try.prog.cellsOf 2 = 1 := by kernel_rfl

theorem cz_int : Try.prog.cellsOf 3 = 1 := by kernel_rfl

theorem cz_vec : Try.prog.cellsOf 80 = 3 := by kernel_rfl

theorem cz_hue : Try.prog.cellsOf 24 = 3 := by kernel_rfl

theorem cz_vec3 : Try.prog.cellsOf 112 = 9 := by kernel_rfl

theorem cz_u64 : Try.prog.cellsOf 22 = 1 := by kernel_rfl

theorem cz_paint : Try.prog.cellsOf 101 = 5 := by kernel_rfl

theorem cz_joint : Try.prog.cellsOf 109 = 4 := by kernel_rfl

theorem cz_shape : Try.prog.cellsOf 114 = 13 := by kernel_rfl

theorem cz_track : Try.prog.cellsOf 92 = 2 := by kernel_rfl

theorem cz_head : Try.prog.cellsOf 26 = 10 := by kernel_rfl

theorem cz_ps : Try.prog.cellsOf 27 = 1 := by kernel_rfl

theorem cz_ts : Try.prog.cellsOf 28 = 1 := by kernel_rfl

theorem cz_js : Try.prog.cellsOf 29 = 1 := by kernel_rfl

theorem cz_ss : Try.prog.cellsOf 30 = 1 := by kernel_rfl

theorem cz_scene : Try.prog.cellsOf 32 = 17 := by kernel_rfl

theorem ints_vec {n : Nat} {cs : List Value} {y : DataW H × List MemPlace} (h : DataW.trod enc Try.prog W base sp held n 80 cs = some y) : Ints 3 cs :=
  ints_arr (c := 1) Try.underlying80 cz_i64 (by omega) (fun _ _ _ h => ints_int Try.underlying2 h) h

theorem ints_hue {n : Nat} {cs : List Value} {y : DataW H × List MemPlace} (h : DataW.trod enc Try.prog W base sp held n 24 cs = some y) : Ints 3 cs :=
  ints_arr (c := 1) Try.underlying24 cz_i64 (by omega) (fun _ _ _ h => ints_int Try.underlying2 h) h

theorem ints_vec3 {n : Nat} {cs : List Value} {y : DataW H × List MemPlace} (h : DataW.trod enc Try.prog W base sp held n 112 cs = some y) : Ints 9 cs :=
  ints_arr (c := 3) Try.underlying112 cz_vec (by omega) (fun _ _ _ h => ints_vec h) h

theorem ints_paint {n : Nat} {cs : List Value} {y : DataW H × List MemPlace} (h : DataW.trod enc Try.prog W base sp held n 101 cs = some y) : Ints 5 cs := by
  obtain ⟨xs, m, -, -, -, hlen, hf⟩ := DataW.trod_struct Try.underlying101 h
  match xs, hlen with
  | [y0, y1, y2], _ =>
    have h0 : DataW.trod enc Try.prog W base sp held m 3 ((cs.drop 0).take (Try.prog.cellsOf 3)) = some y0 := hf 0 _ rfl
    have h1 : DataW.trod enc Try.prog W base sp held m 24 ((cs.drop 1).take (Try.prog.cellsOf 24)) = some y1 := hf 1 _ rfl
    have h2 : DataW.trod enc Try.prog W base sp held m 2 ((cs.drop 4).take (Try.prog.cellsOf 2)) = some y2 := hf 2 _ rfl
    clear hf
    rw [cz_int] at h0
    rw [cz_hue] at h1
    rw [cz_i64] at h2
    have g0 := ints_part (ints_int Try.underlying3 h0)
    have g1 := ints_part (ints_hue h1)
    have g2 := ints_part (ints_int Try.underlying2 h2)
    intro j hj
    match j, hj with
    | 0, _ => exact g0 0 (by omega)
    | 1, _ => exact g1 0 (by omega)
    | 2, _ => exact g1 1 (by omega)
    | 3, _ => exact g1 2 (by omega)
    | 4, _ => exact g2 0 (by omega)

theorem ints_joint {n : Nat} {cs : List Value} {y : DataW H × List MemPlace} (h : DataW.trod enc Try.prog W base sp held n 109 cs = some y) : Ints 4 cs := by
  obtain ⟨xs, m, -, -, -, hlen, hf⟩ := DataW.trod_struct Try.underlying109 h
  match xs, hlen with
  | [y0, y1, y2, y3], _ =>
    have h0 : DataW.trod enc Try.prog W base sp held m 3 ((cs.drop 0).take (Try.prog.cellsOf 3)) = some y0 := hf 0 _ rfl
    have h1 : DataW.trod enc Try.prog W base sp held m 3 ((cs.drop 1).take (Try.prog.cellsOf 3)) = some y1 := hf 1 _ rfl
    have h2 : DataW.trod enc Try.prog W base sp held m 3 ((cs.drop 2).take (Try.prog.cellsOf 3)) = some y2 := hf 2 _ rfl
    have h3 : DataW.trod enc Try.prog W base sp held m 2 ((cs.drop 3).take (Try.prog.cellsOf 2)) = some y3 := hf 3 _ rfl
    clear hf
    rw [cz_int] at h0 h1 h2
    rw [cz_i64] at h3
    have g0 := ints_part (ints_int Try.underlying3 h0)
    have g1 := ints_part (ints_int Try.underlying3 h1)
    have g2 := ints_part (ints_int Try.underlying3 h2)
    have g3 := ints_part (ints_int Try.underlying2 h3)
    intro j hj
    match j, hj with
    | 0, _ => exact g0 0 (by omega)
    | 1, _ => exact g1 0 (by omega)
    | 2, _ => exact g2 0 (by omega)
    | 3, _ => exact g3 0 (by omega)

theorem ints_shape {n : Nat} {cs : List Value} {y : DataW H × List MemPlace} (h : DataW.trod enc Try.prog W base sp held n 114 cs = some y) : Ints 13 cs := by
  obtain ⟨xs, m, -, -, -, hlen, hf⟩ := DataW.trod_struct Try.underlying114 h
  match xs, hlen with
  | [y0, y1, y2, y3, y4], _ =>
    have h0 : DataW.trod enc Try.prog W base sp held m 3 ((cs.drop 0).take (Try.prog.cellsOf 3)) = some y0 := hf 0 _ rfl
    have h1 : DataW.trod enc Try.prog W base sp held m 3 ((cs.drop 1).take (Try.prog.cellsOf 3)) = some y1 := hf 1 _ rfl
    have h2 : DataW.trod enc Try.prog W base sp held m 3 ((cs.drop 2).take (Try.prog.cellsOf 3)) = some y2 := hf 2 _ rfl
    have h3 : DataW.trod enc Try.prog W base sp held m 112 ((cs.drop 3).take (Try.prog.cellsOf 112)) = some y3 := hf 3 _ rfl
    have h4 : DataW.trod enc Try.prog W base sp held m 2 ((cs.drop 12).take (Try.prog.cellsOf 2)) = some y4 := hf 4 _ rfl
    clear hf
    rw [cz_int] at h0 h1 h2
    rw [cz_vec3] at h3
    rw [cz_i64] at h4
    have g0 := ints_part (ints_int Try.underlying3 h0)
    have g1 := ints_part (ints_int Try.underlying3 h1)
    have g2 := ints_part (ints_int Try.underlying3 h2)
    have g3 := ints_part (ints_vec3 h3)
    have g4 := ints_part (ints_int Try.underlying2 h4)
    intro j hj
    match j, hj with
    | 0, _ => exact g0 0 (by omega)
    | 1, _ => exact g1 0 (by omega)
    | 2, _ => exact g2 0 (by omega)
    | 3, _ => exact g3 0 (by omega)
    | 4, _ => exact g3 1 (by omega)
    | 5, _ => exact g3 2 (by omega)
    | 6, _ => exact g3 3 (by omega)
    | 7, _ => exact g3 4 (by omega)
    | 8, _ => exact g3 5 (by omega)
    | 9, _ => exact g3 6 (by omega)
    | 10, _ => exact g3 7 (by omega)
    | 11, _ => exact g3 8 (by omega)
    | 12, _ => exact g4 0 (by omega)
end

section
variable {H : Type} {enc : TypeId × Value → H} {W : World} {base : Nat} {held : Bool}

/-- a row of things of so many numbers, read -/
theorem open_nums {t e : TypeId} {c n : Nat} {cs : List Value} {y : DataW H × List MemPlace} (ht : Try.prog.underlying t = some (.slice e)) (hc : Try.prog.cellsOf e = c) (hc0 : 0 < c) (hb : Try.prog.bytesOf e = c * 8)
    (he : ∀ m cs y, DataW.trod enc Try.prog W base (fun _ => true) held m e cs = some y → Ints c cs) (h : DataW.trod enc Try.prog W base (fun _ => true) held n t cs = some y) (hlt : ∀ x ∈ y.2, x.block < W.heap.size)
    (hs : ∀ m ∈ y.1.weights Try.prog t, m ≤ reachBytes) : ∃ a len cap L, cs = [.slice a len cap] ∧ Nums c W a len L := by
  rcases open_slice ht h with ⟨hcs, -⟩ | ⟨x, l, cp, m, f, D, Pl, hcs, -, hl, -, hmm, hx, hel⟩
  · exact ⟨none, 0, 0, fun _ => 0, hcs, by omega, .inl rfl⟩
  · simp only [if_true] at hmm
    subst hx
    have hw := hs ((((List.range l).map D).length + ((List.range (m - l)).map fun j => D (l + j)).length) * Try.prog.bytesOf e) (by simp [DataW.weights, ht])
    rw [hb] at hw
    simp only [List.length_map, List.length_range, reachBytes] at hw
    have hbd : l * (c * 8) ≤ 140737488351232 := Nat.le_trans (Nat.mul_le_mul_right _ (by omega)) hw
    by_cases hl0 : l = 0
    · exact ⟨_, _, _, fun _ => 0, hcs, hbd, .inl hl0⟩
    · have hall : ∀ j, j < m * c → ∃ z : Int, W.cell? ((x.add (j / c * c)).add (j % c)) = some (.int .i64 z) := fun j hj => by
        have hi : j / c < m := (Nat.div_lt_iff_lt_mul hc0).2 hj
        obtain ⟨cs', h1, h2⟩ := hel (j / c) hi
        rw [hc] at h1
        obtain ⟨_, hlen, hcc⟩ := World.cells?_some h1
        obtain ⟨z, hz⟩ := he _ _ _ h2 (j % c) (Nat.mod_lt _ hc0)
        exact ⟨z, by rw [hcc _ (Nat.mod_lt _ hc0)]; exact hz⟩
      obtain ⟨L, hL⟩ := choose_lt (α := Int) (n := m * c) (p := fun j z => W.cell? ((x.add (j / c * c)).add (j % c)) = some (.int .i64 z)) hall
      simp only [add_add] at hL
      obtain ⟨b, off, spot⟩ := x
      have hspot : spot = none := by simpa [Addr.add] using World.cell?_spot (hL 0 (by have := Nat.mul_le_mul (show 1 ≤ m by omega) (show 1 ≤ c by omega); omega))
      subst hspot
      have hbW : b < W.heap.size := hlt (.cell b off) (List.mem_append_left _ (MemPlace.mem_row.2 ⟨0, by rw [hc]; have := Nat.mul_le_mul (show 1 ≤ m by omega) (show 1 ≤ c by omega); omega, by simp⟩))
      refine ⟨_, _, _, L, hcs, hbd, .inr ⟨b, off, rfl, hbW, fun j hj => ?_⟩⟩
      have := hL j (Nat.lt_of_lt_of_le hj (Nat.mul_le_mul_right _ (by omega)))
      rw [add_plain, Nat.mul_comm (j / c) c, Nat.div_add_mod] at this
      exact this
end

end Go.Proofs.Ytfbppiamlolfpaa.Sc
