/- What a scene that came in is: rows of numbers, rows of tracks. -/
import Derived.Test.YtfbppiamlolfpaaGreatD14
import Derived.Test.YtfbppiamlolfpaaGreatD53
import Derived.Deep.Slices
import Derived.Handed
import Derived.ChangeSame
import Derived.ChangeArms
import Derived.SizedLaws
import Derived.OpenShut
namespace Go.Proofs.YtfbppiamlolfpaaGreat.Sc
open Go.ChangeShapes Go.WideShapes Go.RowKit Go.Deep Go.Proofs.YtfbppiamlolfpaaGreat Go.Proofs.YtfbppiamlolfpaaGreat.Tk
set_option linter.unusedVariables false

/-- so many cells, each a number -/
def Ints (c : Nat) (cs : List Value) : Prop := ∀ j, j < c → ∃ z, cs[j]? = some (.int .i64 z)

section
variable {H : Type} {enc : TypeId × Value → H} {W : World} {base : Nat} {sp : Nat → Bool} {held : Bool}

theorem ints_int {t : TypeId} {n : Nat} {cs : List Value} {y : DataW H × List MemPlace} (ht : Tryz.prog.underlying t = some (.int .i64)) (h : DataW.trod enc Tryz.prog W base sp held n t cs = some y) : Ints 1 cs := by
  obtain ⟨z, e, -, -⟩ := DataW.trod_int ht h
  subst e
  intro j hj
  obtain rfl : j = 0 := by omega
  exact ⟨z, rfl⟩

theorem ints_arr {t e : TypeId} {n c k : Nat} {cs : List Value} {y : DataW H × List MemPlace} (ht : Tryz.prog.underlying t = some (.array k e)) (hc : Tryz.prog.cellsOf e = c) (hc0 : 0 < c) (he : ∀ m cs y, DataW.trod enc Tryz.prog W base sp held m e cs = some y → Ints c cs) (h : DataW.trod enc Tryz.prog W base sp held n t cs = some y) : Ints (k * c) cs := by
  obtain ⟨xs, m, -, -, -, hl, hd⟩ := DataW.trod_array ht h
  intro j hj
  have hi : j / c < k := (Nat.div_lt_iff_lt_mul hc0).2 hj
  have h1 := hd (j / c) hi
  rw [List.getElem?_eq_getElem (by omega)] at h1
  obtain ⟨z, hz⟩ := he _ _ _ h1 (j % c) (Nat.mod_lt _ hc0)
  rw [hc, List.getElem?_take, if_pos (Nat.mod_lt _ hc0), List.getElem?_drop] at hz
  refine ⟨z, ?_⟩
  rw [← hz, Nat.mul_comm, Nat.div_add_mod]

theorem ints_part {o c : Nat} {cs : List Value} (h : Ints c ((cs.drop o).take c)) : ∀ j, j < c → ∃ z, cs[o + j]? = some (.int .i64 z) := fun j hj => by
  obtain ⟨z, hz⟩ := h j hj
  rw [List.getElem?_take, if_pos hj, List.getElem?_drop] at hz
  exact ⟨z, hz⟩

theorem cz_i64 : Tryz.prog.cellsOf 2 = 1 := by kernel_rfl

theorem cz_int : Tryz.prog.cellsOf 3 = 1 := by kernel_rfl

theorem cz_vec : Tryz.prog.cellsOf 87 = 3 := by kernel_rfl

theorem cz_hue : Tryz.prog.cellsOf 24 = 3 := by kernel_rfl

theorem cz_vec3 : Tryz.prog.cellsOf 88 = 9 := by kernel_rfl

theorem cz_u64 : Tryz.prog.cellsOf 22 = 1 := by kernel_rfl

theorem cz_paint : Tryz.prog.cellsOf 76 = 5 := by kernel_rfl

theorem cz_joint : Tryz.prog.cellsOf 84 = 4 := by kernel_rfl

theorem cz_shape : Tryz.prog.cellsOf 90 = 13 := by kernel_rfl

theorem cz_track : Tryz.prog.cellsOf 65 = 2 := by kernel_rfl

theorem cz_head : Tryz.prog.cellsOf 26 = 10 := by kernel_rfl

theorem cz_ps : Tryz.prog.cellsOf 27 = 1 := by kernel_rfl

theorem cz_ts : Tryz.prog.cellsOf 28 = 1 := by kernel_rfl

theorem cz_js : Tryz.prog.cellsOf 29 = 1 := by kernel_rfl

theorem cz_ss : Tryz.prog.cellsOf 30 = 1 := by kernel_rfl

theorem cz_scene : Tryz.prog.cellsOf 32 = 17 := by kernel_rfl

theorem ints_vec {n : Nat} {cs : List Value} {y : DataW H × List MemPlace} (h : DataW.trod enc Tryz.prog W base sp held n 87 cs = some y) : Ints 3 cs :=
  ints_arr (c := 1) Tryz.underlying87 cz_i64 (by omega) (fun _ _ _ h => ints_int Tryz.underlying2 h) h

theorem ints_hue {n : Nat} {cs : List Value} {y : DataW H × List MemPlace} (h : DataW.trod enc Tryz.prog W base sp held n 24 cs = some y) : Ints 3 cs :=
  ints_arr (c := 1) Tryz.underlying24 cz_i64 (by omega) (fun _ _ _ h => ints_int Tryz.underlying2 h) h

theorem ints_vec3 {n : Nat} {cs : List Value} {y : DataW H × List MemPlace} (h : DataW.trod enc Tryz.prog W base sp held n 88 cs = some y) : Ints 9 cs :=
  ints_arr (c := 3) Tryz.underlying88 cz_vec (by omega) (fun _ _ _ h => ints_vec h) h

theorem ints_paint {n : Nat} {cs : List Value} {y : DataW H × List MemPlace} (h : DataW.trod enc Tryz.prog W base sp held n 76 cs = some y) : Ints 5 cs := by
  obtain ⟨xs, m, -, -, -, hlen, hf⟩ := DataW.trod_struct Tryz.underlying76 h
  match xs, hlen with
  | [y0, y1, y2], _ =>
    have h0 : DataW.trod enc Tryz.prog W base sp held m 3 ((cs.drop 0).take (Tryz.prog.cellsOf 3)) = some y0 := hf 0 _ rfl
    have h1 : DataW.trod enc Tryz.prog W base sp held m 24 ((cs.drop 1).take (Tryz.prog.cellsOf 24)) = some y1 := hf 1 _ rfl
    have h2 : DataW.trod enc Tryz.prog W base sp held m 2 ((cs.drop 4).take (Tryz.prog.cellsOf 2)) = some y2 := hf 2 _ rfl
    clear hf
    rw [cz_int] at h0
    rw [cz_hue] at h1
    rw [cz_i64] at h2
    have g0 := ints_part (ints_int Tryz.underlying3 h0)
    have g1 := ints_part (ints_hue h1)
    have g2 := ints_part (ints_int Tryz.underlying2 h2)
    intro j hj
    match j, hj with
    | 0, _ => exact g0 0 (by omega)
    | 1, _ => exact g1 0 (by omega)
    | 2, _ => exact g1 1 (by omega)
    | 3, _ => exact g1 2 (by omega)
    | 4, _ => exact g2 0 (by omega)

theorem ints_joint {n : Nat} {cs : List Value} {y : DataW H × List MemPlace} (h : DataW.trod enc Tryz.prog W base sp held n 84 cs = some y) : Ints 4 cs := by
  obtain ⟨xs, m, -, -, -, hlen, hf⟩ := DataW.trod_struct Tryz.underlying84 h
  match xs, hlen with
  | [y0, y1, y2, y3], _ =>
    have h0 : DataW.trod enc Tryz.prog W base sp held m 3 ((cs.drop 0).take (Tryz.prog.cellsOf 3)) = some y0 := hf 0 _ rfl
    have h1 : DataW.trod enc Tryz.prog W base sp held m 3 ((cs.drop 1).take (Tryz.prog.cellsOf 3)) = some y1 := hf 1 _ rfl
    have h2 : DataW.trod enc Tryz.prog W base sp held m 3 ((cs.drop 2).take (Tryz.prog.cellsOf 3)) = some y2 := hf 2 _ rfl
    have h3 : DataW.trod enc Tryz.prog W base sp held m 2 ((cs.drop 3).take (Tryz.prog.cellsOf 2)) = some y3 := hf 3 _ rfl
    clear hf
    rw [cz_int] at h0 h1 h2
    rw [cz_i64] at h3
    have g0 := ints_part (ints_int Tryz.underlying3 h0)
    have g1 := ints_part (ints_int Tryz.underlying3 h1)
    have g2 := ints_part (ints_int Tryz.underlying3 h2)
    have g3 := ints_part (ints_int Tryz.underlying2 h3)
    intro j hj
    match j, hj with
    | 0, _ => exact g0 0 (by omega)
    | 1, _ => exact g1 0 (by omega)
    | 2, _ => exact g2 0 (by omega)
    | 3, _ => exact g3 0 (by omega)

theorem ints_shape {n : Nat} {cs : List Value} {y : DataW H × List MemPlace} (h : DataW.trod enc Tryz.prog W base sp held n 90 cs = some y) : Ints 13 cs := by
  obtain ⟨xs, m, -, -, -, hlen, hf⟩ := DataW.trod_struct Tryz.underlying90 h
  match xs, hlen with
  | [y0, y1, y2, y3, y4], _ =>
    have h0 : DataW.trod enc Tryz.prog W base sp held m 3 ((cs.drop 0).take (Tryz.prog.cellsOf 3)) = some y0 := hf 0 _ rfl
    have h1 : DataW.trod enc Tryz.prog W base sp held m 3 ((cs.drop 1).take (Tryz.prog.cellsOf 3)) = some y1 := hf 1 _ rfl
    have h2 : DataW.trod enc Tryz.prog W base sp held m 3 ((cs.drop 2).take (Tryz.prog.cellsOf 3)) = some y2 := hf 2 _ rfl
    have h3 : DataW.trod enc Tryz.prog W base sp held m 88 ((cs.drop 3).take (Tryz.prog.cellsOf 88)) = some y3 := hf 3 _ rfl
    have h4 : DataW.trod enc Tryz.prog W base sp held m 2 ((cs.drop 12).take (Tryz.prog.cellsOf 2)) = some y4 := hf 4 _ rfl
    clear hf
    rw [cz_int] at h0 h1 h2
    rw [cz_vec3] at h3
    rw [cz_i64] at h4
    have g0 := ints_part (ints_int Tryz.underlying3 h0)
    have g1 := ints_part (ints_int Tryz.underlying3 h1)
    have g2 := ints_part (ints_int Tryz.underlying3 h2)
    have g3 := ints_part (ints_vec3 h3)
    have g4 := ints_part (ints_int Tryz.underlying2 h4)
    intro j hj
    match j, hj with
    | 0, _ => exact g0 0 (by omega)
    | 1, _ => exact g1 0 (by omega)
    | 2, _ => exact g2 0 (by omega)
    | 3, _ => exact g3 0 (by omega)
    | 4, _ => exact g3 1 (by omega)
    | 5, _ => exact g3 2 (by omega)
    | 6, _ => exact g3 3 (by omega)
    | 7, _ => exact g3 4 (by omega)
    | 8, _ => exact g3 5 (by omega)
    | 9, _ => exact g3 6 (by omega)
    | 10, _ => exact g3 7 (by omega)
    | 11, _ => exact g3 8 (by omega)
    | 12, _ => exact g4 0 (by omega)
end

section
variable {H : Type} {enc : TypeId × Value → H} {W : World} {base : Nat} {held : Bool}

/-- a row of things of so many numbers, read -/
theorem open_nums {t e : TypeId} {c n : Nat} {cs : List Value} {y : DataW H × List MemPlace} (ht : Tryz.prog.underlying t = some (.slice e)) (hc : Tryz.prog.cellsOf e = c) (hc0 : 0 < c) (hb : Tryz.prog.bytesOf e = c * 8)
    (he : ∀ m cs y, DataW.trod enc Tryz.prog W base (fun _ => true) held m e cs = some y → Ints c cs) (h : DataW.trod enc Tryz.prog W base (fun _ => true) held n t cs = some y) (hlt : ∀ x ∈ y.2, x.block < W.heap.size)
    (hs : ∀ m ∈ y.1.weights Tryz.prog t, m ≤ reachBytes) : ∃ a len cap L, cs = [.slice a len cap] ∧ Nums c W a len L := by
  rcases open_slice ht h with ⟨hcs, -⟩ | ⟨x, l, cp, m, f, D, Pl, hcs, -, hl, -, hmm, hx, hel⟩
  · exact ⟨none, 0, 0, fun _ => 0, hcs, by omega, .inl rfl⟩
  · simp only [if_true] at hmm
    subst hx
    have hw := hs ((((List.range l).map D).length + ((List.range (m - l)).map fun j => D (l + j)).length) * Tryz.prog.bytesOf e) (by simp [DataW.weights, ht])
    rw [hb] at hw
    simp only [List.length_map, List.length_range, reachBytes] at hw
    have hbd : l * (c * 8) ≤ 140737488351232 := Nat.le_trans (Nat.mul_le_mul_right _ (by omega)) hw
    by_cases hl0 : l = 0
    · exact ⟨_, _, _, fun _ => 0, hcs, hbd, .inl hl0⟩
    · have hall : ∀ j, j < m * c → ∃ z : Int, W.cell? ((x.add (j / c * c)).add (j % c)) = some (.int .i64 z) := fun j hj => by
        have hi : j / c < m := (Nat.div_lt_iff_lt_mul hc0).2 hj
        obtain ⟨cs', h1, h2⟩ := hel (j / c) hi
        rw [hc] at h1
        obtain ⟨_, hlen, hcc⟩ := World.cells?_some h1
        obtain ⟨z, hz⟩ := he _ _ _ h2 (j % c) (Nat.mod_lt _ hc0)
        exact ⟨z, by rw [hcc _ (Nat.mod_lt _ hc0)]; exact hz⟩
      obtain ⟨L, hL⟩ := choose_lt (α := Int) (n := m * c) (p := fun j z => W.cell? ((x.add (j / c * c)).add (j % c)) = some (.int .i64 z)) hall
      simp only [add_add] at hL
      obtain ⟨b, off, spot⟩ := x
      have hspot : spot = none := by simpa [Addr.add] using World.cell?_spot (hL 0 (by have := Nat.mul_le_mul (show 1 ≤ m by omega) (show 1 ≤ c by omega); omega))
      subst hspot
      have hbW : b < W.heap.size := hlt (.cell b off) (List.mem_append_left _ (MemPlace.mem_row.2 ⟨0, by rw [hc]; have := Nat.mul_le_mul (show 1 ≤ m by omega) (show 1 ≤ c by omega); omega, by simp⟩))
      refine ⟨_, _, _, L, hcs, hbd, .inr ⟨b, off, rfl, hbW, fun j hj => ?_⟩⟩
      have := hL j (Nat.lt_of_lt_of_le hj (Nat.mul_le_mul_right _ (by omega)))
      rw [add_plain, Nat.mul_comm (j / c) c, Nat.div_add_mod] at this
      exact this
end

end Go.Proofs.YtfbppiamlolfpaaGreat.Sc

/- What a scene that came in is: its numbers, and where its lists stand. -/
namespace Go.Proofs.YtfbppiamlolfpaaGreat.Sc
open Go.ChangeShapes Go.WideShapes Go.RowKit Go.Deep Go.Proofs.YtfbppiamlolfpaaGreat Go.Proofs.YtfbppiamlolfpaaGreat.Tk
set_option linter.unusedVariables false

theorem weights_all {H : Type} {P : Program} {e : TypeId} {d : DataW H} : ∀ {ds : List (DataW H)}, d ∈ ds → ∀ n ∈ d.weights P e, n ∈ DataW.weightsAll P e ds
  | x :: r, h, n, hn => by
    rw [DataW.weightsAll, List.mem_append]
    rcases List.mem_cons.1 h with rfl | h
    · exact .inl hn
    · exact .inr (weights_all h n hn)

section
variable {H : Type} {enc : TypeId × Value → H} {W : World} {base : Nat} {held : Bool}

theorem cz_keys : Tryz.prog.cellsOf 63 = 1 := by kernel_rfl

theorem cz_key : Tryz.prog.cellsOf 103 = 4 := by kernel_rfl

theorem ints_key {sp : Nat → Bool} {n : Nat} {cs : List Value} {y : DataW H × List MemPlace} (h : DataW.trod enc Tryz.prog W base sp held n 103 cs = some y) : Ints 4 cs := by
  obtain ⟨xs, m, -, -, -, hlen, hf⟩ := DataW.trod_struct Tryz.underlying103 h
  match xs, hlen with
  | [y0, y1], _ =>
    have h0 : DataW.trod enc Tryz.prog W base sp held m 2 ((cs.drop 0).take (Tryz.prog.cellsOf 2)) = some y0 := hf 0 _ rfl
    have h1 : DataW.trod enc Tryz.prog W base sp held m 87 ((cs.drop 1).take (Tryz.prog.cellsOf 87)) = some y1 := hf 1 _ rfl
    clear hf
    rw [cz_i64] at h0
    rw [cz_vec] at h1
    have g0 := ints_part (ints_int Tryz.underlying2 h0)
    have g1 := ints_part (ints_vec h1)
    intro j hj
    match j, hj with
    | 0, _ => exact g0 0 (by omega)
    | 1, _ => exact g1 0 (by omega)
    | 2, _ => exact g1 1 (by omega)
    | 3, _ => exact g1 2 (by omega)

theorem track_elem {n : Nat} {cs : List Value} {y : DataW H × List MemPlace} (h : DataW.trod enc Tryz.prog W base (fun _ => true) held n 65 cs = some y) (hlt : ∀ x ∈ y.2, x.block < W.heap.size)
    (hs : ∀ m ∈ y.1.weights Tryz.prog 65, m ≤ reachBytes) : ∃ wy a len cap L, cs[0]? = some (.int .i64 wy) ∧ cs[1]? = some (.slice a len cap) ∧ KeysAt W a len L := by
  obtain ⟨xs, m, -, hx, -, hlen, hf⟩ := DataW.trod_struct Tryz.underlying65 h
  match xs, hlen with
  | [y0, y1], _ =>
    have h0 : DataW.trod enc Tryz.prog W base (fun _ => true) held m 3 ((cs.drop 0).take (Tryz.prog.cellsOf 3)) = some y0 := hf 0 _ rfl
    have h1 : DataW.trod enc Tryz.prog W base (fun _ => true) held m 63 ((cs.drop 1).take (Tryz.prog.cellsOf 63)) = some y1 := hf 1 _ rfl
    clear hf
    rw [cz_int] at h0
    rw [cz_keys] at h1
    subst hx
    obtain ⟨z0, e0⟩ := ints_part (ints_int Tryz.underlying3 h0) 0 (by omega)
    obtain ⟨a, len, cap, L, e1, hN⟩ := open_nums Tryz.underlying63 cz_key (by omega) (by kernel_rfl) (fun _ _ _ h => ints_key h) h1 (fun x hx => hlt x (by simp [hx])) (fun k hk => hs k (by
      simp only [DataW.weights, Tryz.underlying65]
      exact DataW.weights_mem_each (j := 1) rfl rfl k hk))
    have e2 := congrArg (fun l => l[0]?) e1
    simp at e2
    exact ⟨z0, a, len, cap, L, e0, e2, ⟨by have := hN.1; omega, hN.2⟩⟩

/-- a row of tracks, read -/
theorem open_tracks {n : Nat} {cs : List Value} {y : DataW H × List MemPlace} (h : DataW.trod enc Tryz.prog W base (fun _ => true) held n 28 cs = some y) (hlt : ∀ x ∈ y.2, x.block < W.heap.size)
    (hs : ∀ m ∈ y.1.weights Tryz.prog 28, m ≤ reachBytes) : ∃ a len cap way kn K, cs = [.slice a len cap] ∧ Tracks W a len way kn K := by
  rcases open_slice Tryz.underlying28 h with ⟨hcs, -⟩ | ⟨x, l, cp, m, f, D, Pl, hcs, -, hl, -, hmm, hx, hel⟩
  · exact ⟨none, 0, 0, fun _ => 0, fun _ => 0, fun _ _ => 0, hcs, by omega, .inl rfl⟩
  · simp only [if_true] at hmm
    subst hx
    have hw := hs ((((List.range l).map D).length + ((List.range (m - l)).map fun j => D (l + j)).length) * Tryz.prog.bytesOf 65) (by simp [DataW.weights, Tryz.underlying28])
    rw [show Tryz.prog.bytesOf 65 = 32 by kernel_rfl] at hw
    simp only [List.length_map, List.length_range, reachBytes] at hw
    have hbd : l * 32 ≤ 140737488351232 := by omega
    by_cases hl0 : l = 0
    · exact ⟨_, _, _, fun _ => 0, fun _ => 0, fun _ _ => 0, hcs, hbd, .inl hl0⟩
    · have hall : ∀ i, i < l → ∃ z : Int × Nat × (Nat → Int) × (Option Addr) × Nat, W.cell? ((x.add (i * 2)).add 0) = some (.int .i64 z.1) ∧ W.cell? ((x.add (i * 2)).add 1) = some (.slice z.2.2.2.1 z.2.1 z.2.2.2.2) ∧ KeysAt W z.2.2.2.1 z.2.1 z.2.2.1 := fun i hi => by
        obtain ⟨cs', h1, h2⟩ := hel i (by omega)
        rw [cz_track] at h1
        obtain ⟨_, hlen, hcc⟩ := World.cells?_some h1
        obtain ⟨wy, a, len, cap, L, e0, e1, hK⟩ := track_elem h2 (fun z hz => hlt z (List.mem_append_right _ (List.mem_flatMap.2 ⟨i, List.mem_range.2 (by omega), hz⟩))) (fun k hk => hs k (by
          simp only [DataW.weights, Tryz.underlying28]
          exact List.mem_cons_of_mem _ (List.mem_append_left _ (weights_all (List.mem_map.2 ⟨i, List.mem_range.2 hi, rfl⟩) k hk))))
        refine ⟨(wy, len, L, a, cap), ?_, ?_, hK⟩
        · rw [hcc 0 (by omega)]; exact e0
        · rw [hcc 1 (by omega)]; exact e1
      obtain ⟨F, hF⟩ := choose_lt (α := Int × Nat × (Nat → Int) × (Option Addr) × Nat) (n := l) (p := fun i z => W.cell? ((x.add (i * 2)).add 0) = some (.int .i64 z.1) ∧ W.cell? ((x.add (i * 2)).add 1) = some (.slice z.2.2.2.1 z.2.1 z.2.2.2.2) ∧ KeysAt W z.2.2.2.1 z.2.1 z.2.2.1) hall
      simp only [add_add] at hF
      obtain ⟨b, off, spot⟩ := x
      have hspot : spot = none := by simpa [Addr.add] using World.cell?_spot (hF 0 (by omega)).1
      subst hspot
      have hbW : b < W.heap.size := hlt (.cell b off) (List.mem_append_left _ (MemPlace.mem_row.2 ⟨0, by rw [cz_track]; omega, by simp⟩))
      refine ⟨_, _, _, fun i => (F i).1, fun i => (F i).2.1, fun i => (F i).2.2.1, hcs, hbd, .inr ⟨b, off, rfl, hbW, fun i hi => ?_⟩⟩
      obtain ⟨g0, g1, g2⟩ := hF i hi
      rw [add_plain] at g0 g1
      exact ⟨(F i).2.2.2.1, (F i).2.2.2.2, g0, g1, g2⟩

theorem part1 {cs : List Value} {o : Nat} {v : Value} (h : (cs.drop o).take 1 = [v]) : cs[o]? = some v := by
  have := congrArg (fun l => l[0]?) h
  simp [List.getElem?_drop] at this
  exact this

set_option maxRecDepth 100000 in
set_option maxHeartbeats 1000000 in
theorem open_scene {r : Reach} {bb : Nat} {v : Value} {d : DataW H} {p : List MemPlace} (hv : Value.okWide Tryz.prog W r bb 32 v) (h : DataW.Trod enc Tryz.prog W base (fun _ => true) held 32 v d p) (hlt : ∀ x ∈ p, x.block < W.heap.size)
    (hs : ∀ n ∈ d.weights Tryz.prog 32, n ≤ reachBytes) : ∃ s a, v = SV s a ∧ ScAt W s a := by
  obtain ⟨cs, rfl, hsz, _⟩ : ∃ cs, v = .agg cs ∧ cs.size = Tryz.prog.cellsOf 32 ∧ Row.okWide Tryz.prog W r bb 32 cs := by
    simpa [Value.okWide, Tryz.underlying32] using hv
  rw [cz_scene] at hsz
  obtain ⟨fuel, hfu⟩ := h
  simp only [Value.cells] at hfu
  obtain ⟨l⟩ := cs
  simp only [List.size_toArray] at hsz hfu
  obtain ⟨xs, m, -, hx, -, hlen, hf⟩ := DataW.trod_struct Tryz.underlying32 hfu
  simp only [Prod.mk.injEq] at hx
  obtain ⟨rfl, rfl⟩ := hx
  match xs, hlen with
  | [y0, y1, y2, y3, y4, y5, y6, y7], _ =>
    have h0 : DataW.trod enc Tryz.prog W base (fun _ => true) held m 26 ((l.drop 0).take (Tryz.prog.cellsOf 26)) = some y0 := hf 0 _ rfl
    have h1 : DataW.trod enc Tryz.prog W base (fun _ => true) held m 3 ((l.drop 10).take (Tryz.prog.cellsOf 3)) = some y1 := hf 1 _ rfl
    have h2 : DataW.trod enc Tryz.prog W base (fun _ => true) held m 3 ((l.drop 11).take (Tryz.prog.cellsOf 3)) = some y2 := hf 2 _ rfl
    have h3 : DataW.trod enc Tryz.prog W base (fun _ => true) held m 2 ((l.drop 12).take (Tryz.prog.cellsOf 2)) = some y3 := hf 3 _ rfl
    have h4 : DataW.trod enc Tryz.prog W base (fun _ => true) held m 27 ((l.drop 13).take (Tryz.prog.cellsOf 27)) = some y4 := hf 4 _ rfl
    have h5 : DataW.trod enc Tryz.prog W base (fun _ => true) held m 28 ((l.drop 14).take (Tryz.prog.cellsOf 28)) = some y5 := hf 5 _ rfl
    have h6 : DataW.trod enc Tryz.prog W base (fun _ => true) held m 29 ((l.drop 15).take (Tryz.prog.cellsOf 29)) = some y6 := hf 6 _ rfl
    have h7 : DataW.trod enc Tryz.prog W base (fun _ => true) held m 30 ((l.drop 16).take (Tryz.prog.cellsOf 30)) = some y7 := hf 7 _ rfl
    clear hf
    rw [cz_head] at h0
    rw [cz_int] at h1 h2
    rw [cz_i64] at h3
    rw [cz_ps] at h4
    rw [cz_ts] at h5
    rw [cz_js] at h6
    rw [cz_ss] at h7
    have hpart : ∀ (y : DataW H × List MemPlace) (j : Nat) (t : TypeId), ([26, 3, 3, 2, 27, 28, 29, 30] : List TypeId)[j]? = some t → [y0, y1, y2, y3, y4, y5, y6, y7][j]? = some y → ∀ n ∈ y.1.weights Tryz.prog t, n ≤ reachBytes := fun y j t ht hy n hn => hs n (by
      simp only [DataW.weights, Tryz.underlying32]
      exact DataW.weights_mem_each (j := j) ht (by rw [List.getElem?_map, hy]; rfl) n hn)
    obtain ⟨z1, e1⟩ := ints_part (ints_int Tryz.underlying3 h1) 0 (by omega)
    obtain ⟨z2, e2⟩ := ints_part (ints_int Tryz.underlying3 h2) 0 (by omega)
    obtain ⟨z3, e3⟩ := ints_part (ints_int Tryz.underlying2 h3) 0 (by omega)
    obtain ⟨pa, np, pc, P, e4, hP⟩ := open_nums Tryz.underlying27 cz_paint (by omega) (by kernel_rfl) (fun _ _ _ h => ints_paint h) h4 (fun x hx => hlt x (by simp [hx])) (hpart y4 4 _ rfl rfl)
    obtain ⟨ta, nt, tc, way, kn, K, e5, hT⟩ := open_tracks h5 (fun x hx => hlt x (by simp [hx])) (hpart y5 5 _ rfl rfl)
    obtain ⟨ja, nj, jc, J, e6, hJ⟩ := open_nums Tryz.underlying29 cz_joint (by omega) (by kernel_rfl) (fun _ _ _ h => ints_joint h) h6 (fun x hx => hlt x (by simp [hx])) (hpart y6 6 _ rfl rfl)
    obtain ⟨sa, ns, sc, S, e7, hS⟩ := open_nums Tryz.underlying30 cz_shape (by omega) (by kernel_rfl) (fun _ _ _ h => ints_shape h) h7 (fun x hx => hlt x (by simp [hx])) (hpart y7 7 _ rfl rfl)
    replace e4 := part1 e4
    replace e5 := part1 e5
    replace e6 := part1 e6
    replace e7 := part1 e7
    obtain ⟨hxs, m2, -, -, -, hhl, hh⟩ := DataW.trod_struct Tryz.underlying26 h0
    match hxs, hhl with
    | [u0, u1, u2, u3, u4, u5, u6, u7], _ =>
      have g0 : DataW.trod enc Tryz.prog W base (fun _ => true) held m2 3 ((((l.drop 0).take 10).drop 0).take (Tryz.prog.cellsOf 3)) = some u0 := hh 0 _ rfl
      have g1 : DataW.trod enc Tryz.prog W base (fun _ => true) held m2 3 ((((l.drop 0).take 10).drop 1).take (Tryz.prog.cellsOf 3)) = some u1 := hh 1 _ rfl
      have g2 : DataW.trod enc Tryz.prog W base (fun _ => true) held m2 3 ((((l.drop 0).take 10).drop 2).take (Tryz.prog.cellsOf 3)) = some u2 := hh 2 _ rfl
      have g3 : DataW.trod enc Tryz.prog W base (fun _ => true) held m2 3 ((((l.drop 0).take 10).drop 3).take (Tryz.prog.cellsOf 3)) = some u3 := hh 3 _ rfl
      have g4 : DataW.trod enc Tryz.prog W base (fun _ => true) held m2 3 ((((l.drop 0).take 10).drop 4).take (Tryz.prog.cellsOf 3)) = some u4 := hh 4 _ rfl
      have g5 : DataW.trod enc Tryz.prog W base (fun _ => true) held m2 2 ((((l.drop 0).take 10).drop 5).take (Tryz.prog.cellsOf 2)) = some u5 := hh 5 _ rfl
      have g6 : DataW.trod enc Tryz.prog W base (fun _ => true) held m2 22 ((((l.drop 0).take 10).drop 6).take (Tryz.prog.cellsOf 22)) = some u6 := hh 6 _ rfl
      have g7 : DataW.trod enc Tryz.prog W base (fun _ => true) held m2 24 ((((l.drop 0).take 10).drop 7).take (Tryz.prog.cellsOf 24)) = some u7 := hh 7 _ rfl
      clear hh
      rw [cz_int] at g0 g1 g2 g3 g4
      rw [cz_i64] at g5
      rw [cz_u64] at g6
      rw [cz_hue] at g7
      obtain ⟨w0, f0⟩ := ints_part (ints_int Tryz.underlying3 g0) 0 (by omega)
      obtain ⟨w1, f1⟩ := ints_part (ints_int Tryz.underlying3 g1) 0 (by omega)
      obtain ⟨w2, f2⟩ := ints_part (ints_int Tryz.underlying3 g2) 0 (by omega)
      obtain ⟨w3, f3⟩ := ints_part (ints_int Tryz.underlying3 g3) 0 (by omega)
      obtain ⟨w4, f4⟩ := ints_part (ints_int Tryz.underlying3 g4) 0 (by omega)
      obtain ⟨w5, f5⟩ := ints_part (ints_int Tryz.underlying2 g5) 0 (by omega)
      obtain ⟨w6, f6, -, k6⟩ := DataW.trod_int Tryz.underlying22 g6
      replace f6 := part1 f6
      have g7' := ints_part (ints_hue g7)
      obtain ⟨w7, f7⟩ := g7' 0 (by omega)
      obtain ⟨w8, f8⟩ := g7' 1 (by omega)
      obtain ⟨w9, f9⟩ := g7' 2 (by omega)
      have hb6 := bounds_u64 k6
      match l, hsz with
      | [c0, c1, c2, c3, c4, c5, c6, c7, c8, c9, c10, c11, c12, c13, c14, c15, c16], _ =>
        simp at f0 f1 f2 f3 f4 f5 f6 f7 f8 f9 e1 e2 e3 e4 e5 e6 e7
        subst f0 f1 f2 f3 f4 f5 f6 f7 f8 f9 e1 e2 e3 e4 e5 e6 e7
        refine ⟨{ w := w0, h := w1, sm := w2, dp := w3, fr := w4, sh := w5, sd := w6.toNat, r := w7, g := w8, b := w9, ey := z1, lk := z2, wd := z3, np := np, P := P, nt := nt, way := way, kn := kn, K := K, nj := nj, J := J, ns := ns, S := S }, ⟨pa, pc, ta, tc, ja, jc, sa, sc⟩, ?_, ⟨hP, hT, hJ, hS, ?_⟩⟩
        · have : ((w6.toNat : Nat) : Int) = w6 := by omega
          simp [SV, SC, this]
        · show w6.toNat < 18446744073709551616
          omega
end

end Go.Proofs.YtfbppiamlolfpaaGreat.Sc
