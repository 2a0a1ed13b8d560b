/- What a film that came in is: its numbers, and where its lists stand. -/
import Derived.Test.YtcohehekkeeeoaaDoorF18
import Derived.Test.YtcohehekkeeeoaaDoorF50
namespace Go.Proofs.YtcohehekkeeeoaaDoor.Fm
open Go.ChangeShapes Go.WideShapes Go.RowKit Go.Deep Go.Proofs.YtcohehekkeeeoaaDoor Go.Proofs.YtcohehekkeeeoaaDoor.Ni
set_option linter.unusedVariables false

section
variable {H : Type} {enc : TypeId × Value → H} {W : World} {base : Nat} {held : Bool}

/-- a row of things of so many numbers, read -/
theorem open_row {t e : TypeId} {c n : Nat} {cs : List Value} {y : DataW H × List MemPlace} (ht : Tryd.prog.underlying t = some (.slice e)) (hc : Tryd.prog.cellsOf e = c) (hc0 : 0 < c) (hb : Tryd.prog.bytesOf e = c * 8)
    (he : ∀ m cs y, DataW.trod enc Tryd.prog W base (fun _ => true) held m e cs = some y → Ints c cs) (h : DataW.trod enc Tryd.prog W base (fun _ => true) held n t cs = some y) (hlt : ∀ x ∈ y.2, x.block < W.heap.size)
    (hs : ∀ m ∈ y.1.weights Tryd.prog t, m ≤ reachBytes) : ∃ a len cap L, cs = [.slice a len cap] ∧ Nums c W a len L ∧ (a = none → len = 0 ∧ cap = 0) := by
  rcases open_slice ht h with ⟨hcs, -⟩ | ⟨x, l, cp, m, f, D, Pl, hcs, -, hl, -, hmm, hx, hel⟩
  · exact ⟨none, 0, 0, fun _ => 0, hcs, ⟨by omega, .inl rfl⟩, fun _ => ⟨rfl, rfl⟩⟩
  · simp only [if_true] at hmm
    subst hx
    have hw := hs ((((List.range l).map D).length + ((List.range (m - l)).map fun j => D (l + j)).length) * Tryd.prog.bytesOf e) (by simp [DataW.weights, ht])
    rw [hb] at hw
    simp only [List.length_map, List.length_range, reachBytes] at hw
    have hbd : l * (c * 8) ≤ 140737488351232 := Nat.le_trans (Nat.mul_le_mul_right _ (by omega)) hw
    by_cases hl0 : l = 0
    · exact ⟨_, _, _, fun _ => 0, hcs, ⟨hbd, .inl hl0⟩, fun h => by cases h⟩
    · have hall : ∀ j, j < m * c → ∃ z : Int, W.cell? ((x.add (j / c * c)).add (j % c)) = some (.int .i64 z) := fun j hj => by
        have hi : j / c < m := (Nat.div_lt_iff_lt_mul hc0).2 hj
        obtain ⟨cs', h1, h2⟩ := hel (j / c) hi
        rw [hc] at h1
        obtain ⟨_, hlen, hcc⟩ := World.cells?_some h1
        obtain ⟨z, hz⟩ := he _ _ _ h2 (j % c) (Nat.mod_lt _ hc0)
        exact ⟨z, by rw [hcc _ (Nat.mod_lt _ hc0)]; exact hz⟩
      obtain ⟨L, hL⟩ := choose_lt (α := Int) (n := m * c) (p := fun j z => W.cell? ((x.add (j / c * c)).add (j % c)) = some (.int .i64 z)) hall
      simp only [add_add] at hL
      obtain ⟨b, off, spot⟩ := x
      have hspot : spot = none := by simpa [Addr.add] using World.cell?_spot (hL 0 (by have := Nat.mul_le_mul (show 1 ≤ m by omega) (show 1 ≤ c by omega); omega))
      subst hspot
      have hbW : b < W.heap.size := hlt (.cell b off) (List.mem_append_left _ (MemPlace.mem_row.2 ⟨0, by rw [hc]; have := Nat.mul_le_mul (show 1 ≤ m by omega) (show 1 ≤ c by omega); omega, by simp⟩))
      refine ⟨_, _, _, L, hcs, ⟨hbd, .inr ⟨b, off, rfl, hbW, fun j hj => ?_⟩⟩, fun h => by cases h⟩
      have := hL j (Nat.lt_of_lt_of_le hj (Nat.mul_le_mul_right _ (by omega)))
      rw [add_plain, Nat.mul_comm (j / c) c, Nat.div_add_mod] at this
      exact this

theorem ints_hue {sp : Nat → Bool} {n : Nat} {cs : List Value} {y : DataW H × List MemPlace} (h : DataW.trod enc Tryd.prog W base sp held n 77 cs = some y) : Ints 3 cs :=
  ints_arr (c := 1) Tryd.underlying77 cz_i64 (by omega) (fun _ _ _ h => ints_int Tryd.underlying2 h) h

theorem cz_hue : Tryd.prog.cellsOf 77 = 3 := by kernel_rfl

theorem cz_film : Tryd.prog.cellsOf 29 = 8 := by kernel_rfl

theorem cz_sheet : Tryd.prog.cellsOf 24 = 3 := by kernel_rfl

theorem cz_sv : Tryd.prog.cellsOf 26 = 1 := by kernel_rfl

theorem cz_sh : Tryd.prog.cellsOf 22 = 1 := by kernel_rfl

theorem cz_s64 : Tryd.prog.cellsOf 25 = 1 := by kernel_rfl

theorem cz_sint : Tryd.prog.cellsOf 27 = 1 := by kernel_rfl

theorem part1 {cs : List Value} {o : Nat} {v : Value} (h : (cs.drop o).take 1 = [v]) : cs[o]? = some v := by
  have := congrArg (fun l => l[0]?) h
  simp [List.getElem?_drop] at this
  exact this

/-- what holds of a film that came in -/
structure Came (W : World) (f : Flm) (p : Pl) : Prop where
  at_ : FAt W f p
  bl : f.nl * 24 ≤ 140737488351232
  bd : f.nd * 8 ≤ 140737488351232
  bn : f.nn * 24 ≤ 140737488351232
  bb : f.nb * 24 ≤ 140737488351232
  bs : f.ns * 8 ≤ 140737488351232
  bf : f.nf * 8 ≤ 140737488351232
  ks : p.ax = none → f.ns = 0 ∧ p.cx = 0
  kf : p.af = none → f.nf = 0 ∧ p.cf = 0

theorem rw_of {c : Nat} {a : Option Addr} {n : Nat} {L : Nat → Int} (h : Nums c W a n L) : Rw c W a n L := h.2

set_option maxRecDepth 100000 in
set_option maxHeartbeats 1000000 in
theorem open_film {r : Reach} {bb : Nat} {v : Value} {d : DataW H} {p : List MemPlace} (hv : Value.okWide Tryd.prog W r bb 29 v) (h : DataW.Trod enc Tryd.prog W base (fun _ => true) held 29 v d p) (hlt : ∀ x ∈ p, x.block < W.heap.size)
    (hs : ∀ n ∈ d.weights Tryd.prog 29, n ≤ reachBytes) : ∃ f q, v = .agg (FC f q) ∧ Came W f q := by
  obtain ⟨cs, rfl, hsz, _⟩ : ∃ cs, v = .agg cs ∧ cs.size = Tryd.prog.cellsOf 29 ∧ Row.okWide Tryd.prog W r bb 29 cs := by
    simpa [Value.okWide, Tryd.underlying29] using hv
  rw [cz_film] at hsz
  obtain ⟨fuel, hfu⟩ := h
  simp only [Value.cells] at hfu
  obtain ⟨l⟩ := cs
  simp only [List.size_toArray] at hsz hfu
  obtain ⟨xs, m, -, hx, -, hlen, hf⟩ := DataW.trod_struct Tryd.underlying29 hfu
  simp only [Prod.mk.injEq] at hx
  obtain ⟨rfl, rfl⟩ := hx
  match xs, hlen with
  | [y0, y1, y2, y3, y4, y5], _ =>
    have h0 : DataW.trod enc Tryd.prog W base (fun _ => true) held m 24 ((l.drop 0).take (Tryd.prog.cellsOf 24)) = some y0 := hf 0 _ rfl
    have h1 : DataW.trod enc Tryd.prog W base (fun _ => true) held m 25 ((l.drop 3).take (Tryd.prog.cellsOf 25)) = some y1 := hf 1 _ rfl
    have h2 : DataW.trod enc Tryd.prog W base (fun _ => true) held m 26 ((l.drop 4).take (Tryd.prog.cellsOf 26)) = some y2 := hf 2 _ rfl
    have h3 : DataW.trod enc Tryd.prog W base (fun _ => true) held m 22 ((l.drop 5).take (Tryd.prog.cellsOf 22)) = some y3 := hf 3 _ rfl
    have h4 : DataW.trod enc Tryd.prog W base (fun _ => true) held m 27 ((l.drop 6).take (Tryd.prog.cellsOf 27)) = some y4 := hf 4 _ rfl
    have h5 : DataW.trod enc Tryd.prog W base (fun _ => true) held m 27 ((l.drop 7).take (Tryd.prog.cellsOf 27)) = some y5 := hf 5 _ rfl
    clear hf
    rw [cz_sheet] at h0
    rw [cz_s64] at h1
    rw [cz_sv] at h2
    rw [cz_sh] at h3
    rw [cz_sint] at h4 h5
    have hpart : ∀ (y : DataW H × List MemPlace) (j : Nat) (t : TypeId), ([24, 25, 26, 22, 27, 27] : List TypeId)[j]? = some t → [y0, y1, y2, y3, y4, y5][j]? = some y → ∀ n ∈ y.1.weights Tryd.prog t, n ≤ reachBytes := fun y j t ht hy n hn => hs n (by
      simp only [DataW.weights, Tryd.underlying29]
      exact DataW.weights_mem_each (j := j) ht (by rw [List.getElem?_map, hy]; rfl) n hn)
    obtain ⟨ad, nd, cd, D, e1, hD, -⟩ := open_row Tryd.underlying25 cz_i64 (by omega) (by kernel_rfl) (fun _ _ _ h => ints_int Tryd.underlying2 h) h1 (fun x hx => hlt x (by simp [hx])) (hpart y1 1 _ rfl rfl)
    obtain ⟨an, nn, cn, N, e2, hN, -⟩ := open_row Tryd.underlying26 cz_vec (by omega) (by kernel_rfl) (fun _ _ _ h => ints_vec h) h2 (fun x hx => hlt x (by simp [hx])) (hpart y2 2 _ rfl rfl)
    obtain ⟨ab, nb, cb, B, e3, hB, -⟩ := open_row Tryd.underlying22 cz_hue (by omega) (by kernel_rfl) (fun _ _ _ h => ints_hue h) h3 (fun x hx => hlt x (by simp [hx])) (hpart y3 3 _ rfl rfl)
    obtain ⟨ax, ns, cx, S, e4, hS, hks⟩ := open_row Tryd.underlying27 cz_int (by omega) (by kernel_rfl) (fun _ _ _ h => ints_int Tryd.underlying3 h) h4 (fun x hx => hlt x (by simp [hx])) (hpart y4 4 _ rfl rfl)
    obtain ⟨af, nf, cf, Fl, e5, hF, hkf⟩ := open_row Tryd.underlying27 cz_int (by omega) (by kernel_rfl) (fun _ _ _ h => ints_int Tryd.underlying3 h) h5 (fun x hx => hlt x (by simp [hx])) (hpart y5 5 _ rfl rfl)
    replace e1 := part1 e1
    replace e2 := part1 e2
    replace e3 := part1 e3
    replace e4 := part1 e4
    replace e5 := part1 e5
    have hp0 := hpart y0 0 _ rfl rfl
    obtain ⟨hxs, m2, -, hx0, -, hhl, hh⟩ := DataW.trod_struct Tryd.underlying24 h0
    match hxs, hhl with
    | [u0, u1, u2], _ =>
      have g0 : DataW.trod enc Tryd.prog W base (fun _ => true) held m2 3 ((((l.drop 0).take 3).drop 0).take (Tryd.prog.cellsOf 3)) = some u0 := hh 0 _ rfl
      have g1 : DataW.trod enc Tryd.prog W base (fun _ => true) held m2 3 ((((l.drop 0).take 3).drop 1).take (Tryd.prog.cellsOf 3)) = some u1 := hh 1 _ rfl
      have g2 : DataW.trod enc Tryd.prog W base (fun _ => true) held m2 22 ((((l.drop 0).take 3).drop 2).take (Tryd.prog.cellsOf 22)) = some u2 := hh 2 _ rfl
      clear hh
      rw [cz_int] at g0 g1
      rw [cz_sh] at g2
      subst hx0
      obtain ⟨w0, f0⟩ := ints_part (ints_int Tryd.underlying3 g0) 0 (by omega)
      obtain ⟨w1, f1⟩ := ints_part (ints_int Tryd.underlying3 g1) 0 (by omega)
      obtain ⟨al, nl, cl, Ll, e0, hL, -⟩ := open_row Tryd.underlying22 cz_hue (by omega) (by kernel_rfl) (fun _ _ _ h => ints_hue h) g2 (fun x hx => hlt x (by simp [hx])) (fun n hn => hp0 n (by
        simp only [DataW.weights, Tryd.underlying24]
        exact DataW.weights_mem_each (j := 2) rfl rfl n hn))
      replace e0 := part1 e0
      match l, hsz with
      | [c0, c1, c2, c3, c4, c5, c6, c7], _ =>
        simp at f0 f1 e0 e1 e2 e3 e4 e5
        subst f0 f1 e0 e1 e2 e3 e4 e5
        exact ⟨⟨w0, w1, nl, nd, nn, nb, ns, nf, Ll, D, N, B, S, Fl⟩, ⟨al, cl, ad, cd, an, cn, ab, cb, ax, cx, af, cf⟩, rfl, ⟨⟨rw_of hL, rw_of hD, rw_of hN, rw_of hB, rw_of hS, rw_of hF⟩, hL.1, hD.1, hN.1, hB.1, hS.1, hF.1, hks, hkf⟩⟩
end

end Go.Proofs.YtcohehekkeeeoaaDoor.Fm
