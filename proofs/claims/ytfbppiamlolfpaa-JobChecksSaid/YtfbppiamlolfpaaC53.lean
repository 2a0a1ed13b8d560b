/- What a scene that came in is: its numbers, and where its lists stand. -/
import Derived.Test.YtfbppiamlolfpaaC52
namespace Go.Proofs.Ytfbppiamlolfpaa.Sc
open Go.ChangeShapes Go.WideShapes Go.RowKit Go.Deep Go.Proofs.Ytfbppiamlolfpaa Go.Proofs.Ytfbppiamlolfpaa.Tk
set_option linter.unusedVariables false

theorem weights_all {H : Type} {P : Program} {e : TypeId} {d : DataW H} : ∀ {ds : List (DataW H)}, d ∈ ds → ∀ n ∈ d.weights P e, n ∈ DataW.weightsAll P e ds
  | x :: r, h, n, hn => by
    rw [DataW.weightsAll, List.mem_append]
    rcases List.mem_cons.1 h with rfl | h
    · exact .inl hn
    · exact .inr (weights_all h n hn)

section
variable {H : Type} {enc : TypeId × Value → H} {W : World} {base : Nat} {held : Bool}

theorem cz_keys : Try.prog.cellsOf 90 = 1 := by kernel_rfl

theorem cz_key : Try.prog.cellsOf 191 = 4 := by kernel_rfl

theorem ints_key {sp : Nat → Bool} {n : Nat} {cs : List Value} {y : DataW H × List MemPlace} (h : DataW.trod enc Try.prog W base sp held n 191 cs = some y) : Ints 4 cs := by
  obtain ⟨xs, m, -, -, -, hlen, hf⟩ := DataW.trod_struct Try.underlying191 h
  match xs, hlen with
  | [y0, y1], _ =>
    have h0 : DataW.trod enc Try.prog W base sp held m 2 ((cs.drop 0).take (Try.prog.cellsOf 2)) = some y0 := hf 0 _ rfl
    have h1 : DataW.trod enc Try.prog W base sp held m 80 ((cs.drop 1).take (Try.prog.cellsOf 80)) = some y1 := hf 1 _ rfl
    clear hf
    rw [cz_i64] at h0
    rw [cz_vec] at h1
    have g0 := ints_part (ints_int Try.underlying2 h0)
    have g1 := ints_part (ints_vec h1)
    intro j hj
    match j, hj with
    | 0, _ => exact g0 0 (by omega)
    | 1, _ => exact g1 0 (by omega)
    | 2, _ => exact g1 1 (by omega)
    | 3, _ => exact g1 2 (by omega)

theorem track_elem {n : Nat} {cs : List Value} {y : DataW H × List MemPlace} (h : DataW.trod enc Try.prog W base (fun _ => true) held n 92 cs = some y) (hlt : ∀ x ∈ y.2, x.block < W.heap.size)
    (hs : ∀ m ∈ y.1.weights Try.prog 92, m ≤ reachBytes) : ∃ wy a len cap L, cs[0]? = some (.int .i64 wy) ∧ cs[1]? = some (.slice a len cap) ∧ KeysAt W a len L := by
  obtain ⟨xs, m, -, hx, -, hlen, hf⟩ := DataW.trod_struct Try.underlying92 h
  match xs, hlen with
  | [y0, y1], _ =>
    have h0 : DataW.trod enc Try.prog W base (fun _ => true) held m 3 ((cs.drop 0).take (Try.prog.cellsOf 3)) = some y0 := hf 0 _ rfl
    have h1 : DataW.trod enc Try.prog W base (fun _ => true) held m 90 ((cs.drop 1).take (Try.prog.cellsOf 90)) = some y1 := hf 1 _ rfl
    clear hf
    rw [cz_int] at h0
    rw [cz_keys] at h1
    subst hx
    obtain ⟨z0, e0⟩ := ints_part (ints_int Try.underlying3 h0) 0 (by omega)
    obtain ⟨a, len, cap, L, e1, hN⟩ := open_nums Try.underlying90 cz_key (by omega) (by kernel_rfl) (fun _ _ _ h => ints_key h) h1 (fun x hx => hlt x (by simp [hx])) (fun k hk => hs k (by
      simp only [DataW.weights, Try.underlying92]
      exact DataW.weights_mem_each (j := 1) rfl rfl k hk))
    have e2 := congrArg (fun l => l[0]?) e1
    simp at e2
    exact ⟨z0, a, len, cap, L, e0, e2, ⟨by have := hN.1; omega, hN.2⟩⟩

/-- a row of tracks, read -/
theorem open_tracks {n : Nat} {cs : List Value} {y : DataW H × List MemPlace} (h : DataW.trod enc Try.prog W base (fun _ => true) held n 28 cs = some y) (hlt : ∀ x ∈ y.2, x.block < W.heap.size)
    (hs : ∀ m ∈ y.1.weights Try.prog 28, m ≤ reachBytes) : ∃ a len cap way kn K, cs = [.slice a len cap] ∧ Tracks W a len way kn K := by
  rcases open_slice Try.underlying28 h with ⟨hcs, -⟩ | ⟨x, l, cp, m, f, D, Pl, hcs, -, hl, -, hmm, hx, hel⟩
  · exact ⟨none, 0, 0, fun _ => 0, fun _ => 0, fun _ _ => 0, hcs, by omega, .inl rfl⟩
  · simp only [if_true] at hmm
    subst hx
    have hw := hs ((((List.range l).map D).length + ((List.range (m - l)).map fun j => D (l + j)).length) * Try.prog.bytesOf 92) (by simp [DataW.weights, Try.underlying28])
    rw [show Try.prog.bytesOf 92 = 32 by kernel_rfl] at hw
    simp only [List.length_map, List.length_range, reachBytes] at hw
    have hbd : l * 32 ≤ 140737488351232 := by omega
    by_cases hl0 : l = 0
    · exact ⟨_, _, _, fun _ => 0, fun _ => 0, fun _ _ => 0, hcs, hbd, .inl hl0⟩
    · have hall : ∀ i, i < l → ∃ z : Int × Nat × (Nat → Int) × (Option Addr) × Nat, W.cell? ((x.add (i * 2)).add 0) = some (.int .i64 z.1) ∧ W.cell? ((x.add (i * 2)).add 1) = some (.slice z.2.2.2.1 z.2.1 z.2.2.2.2) ∧ KeysAt W z.2.2.2.1 z.2.1 z.2.2.1 := fun i hi => by
        obtain ⟨cs', h1, h2⟩ := hel i (by omega)
        rw [cz_track] at h1
        obtain ⟨_, hlen, hcc⟩ := World.cells?_some h1
        obtain ⟨wy, a, len, cap, L, e0, e1, hK⟩ := track_elem h2 (fun z hz => hlt z (List.mem_append_right _ (List.mem_flatMap.2 ⟨i, List.mem_range.2 (by omega), hz⟩))) (fun k hk => hs k (by
          simp only [DataW.weights, Try.underlying28]
          exact List.mem_cons_of_mem _ (List.mem_append_left _ (weights_all (List.mem_map.2 ⟨i, List.mem_range.2 hi, rfl⟩) k hk))))
        refine ⟨(wy, len, L, a, cap), ?_, ?_, hK⟩
        · rw [hcc 0 (by omega)]; exact e0
        · rw [hcc 1 (by omega)]; exact e1
      obtain ⟨F, hF⟩ := choose_lt (α := Int × Nat × (Nat → Int) × (Option Addr) × Nat) (n := l) (p := fun i z => W.cell? ((x.add (i * 2)).add 0) = some (.int .i64 z.1) ∧ W.cell? ((x.add (i * 2)).add 1) = some (.slice z.2.2.2.1 z.2.1 z.2.2.2.2) ∧ KeysAt W z.2.2.2.1 z.2.1 z.2.2.1) hall
      simp only [add_add] at hF
      obtain ⟨b, off, spot⟩ := x
      have hspot : spot = none := by simpa [Addr.add] using World.cell?_spot (hF 0 (by omega)).1
      subst hspot
      have hbW : b < W.heap.size := hlt (.cell b off) (List.mem_append_left _ (MemPlace.mem_row.2 ⟨0, by rw [cz_track]; omega, by simp⟩))
      refine ⟨_, _, _, fun i => (F i).1, fun i => (F i).2.1, fun i => (F i).2.2.1, hcs, hbd, .inr ⟨b, off, rfl, hbW, fun i hi => ?_⟩⟩
      obtain ⟨g0, g1, g2⟩ := hF i hi
      rw [add_plain] at g0 g1
      exact ⟨(F i).2.2.2.1, (F i).2.2.2.2, g0, g1, g2⟩

theorem part1 {cs : List Value} {o : Nat} {v : Value} (h : (cs.drop o).take 1 = [v]) : cs[o]? = some v := by
  have := congrArg (fun l => l[0]?) h
  simp [List.getElem?_drop] at this
  exact this

set_option maxRecDepth 100000 in
set_option maxHeartbeats 1000000 in
theorem open_scene {r : Reach} {bb : Nat} {v : Value} {d : DataW H} {p : List MemPlace} (hv : Value.okWide Try.prog W r bb 32 v) (h : DataW.Trod enc Try.prog W base (fun _ => true) held 32 v d p) (hlt : ∀ x ∈ p, x.block < W.heap.size)
    (hs : ∀ n ∈ d.weights Try.prog 32, n ≤ reachBytes) : ∃ s a, v = SV s a ∧ ScAt W s a := by
  obtain ⟨cs, rfl, hsz, _⟩ : ∃ cs, v = .agg cs ∧ cs.size = Try.prog.cellsOf 32 ∧ Row.okWide Try.prog W r bb 32 cs := by
    simpa [Value.okWide, Try.underlying32] using hv
  rw [cz_scene] at hsz
  obtain ⟨fuel, hfu⟩ := h
  simp only [Value.cells] at hfu
  obtain ⟨l⟩ := cs
  simp only [List.size_toArray] at hsz hfu
  obtain ⟨xs, m, -, hx, -, hlen, hf⟩ := DataW.trod_struct Try.underlying32 hfu
  simp only [Prod.mk.injEq] at hx
  obtain ⟨rfl, rfl⟩ := hx
  match xs, hlen with
  | [y0, y1, y2, y3, y4, y5, y6, y7], _ =>
    have h0 : DataW.trod enc Try.prog W base (fun _ => true) held m 26 ((l.drop 0).take (Try.prog.cellsOf 26)) = some y0 := hf 0 _ rfl
    have h1 : DataW.trod enc Try.prog W base (fun _ => true) held m 3 ((l.drop 10).take (Try.prog.cellsOf 3)) = some y1 := hf 1 _ rfl
    have h2 : DataW.trod enc Try.prog W base (fun _ => true) held m 3 ((l.drop 11).take (Try.prog.cellsOf 3)) = some y2 := hf 2 _ rfl
    have h3 : DataW.trod enc Try.prog W base (fun _ => true) held m 2 ((l.drop 12).take (Try.prog.cellsOf 2)) = some y3 := hf 3 _ rfl
    have h4 : DataW.trod enc Try.prog W base (fun _ => true) held m 27 ((l.drop 13).take (Try.prog.cellsOf 27)) = some y4 := hf 4 _ rfl
    have h5 : DataW.trod enc Try.prog W base (fun _ => true) held m 28 ((l.drop 14).take (Try.prog.cellsOf 28)) = some y5 := hf 5 _ rfl
    have h6 : DataW.trod enc Try.prog W base (fun _ => true) held m 29 ((l.drop 15).take (Try.prog.cellsOf 29)) = some y6 := hf 6 _ rfl
    have h7 : DataW.trod enc Try.prog W base (fun _ => true) held m 30 ((l.drop 16).take (Try.prog.cellsOf 30)) = some y7 := hf 7 _ rfl
    clear hf
    rw [cz_head] at h0
    rw [cz_int] at h1 h2
    rw [cz_i64] at h3
    rw [cz_ps] at h4
    rw [cz_ts] at h5
    rw [cz_js] at h6
    rw [cz_ss] at h7
    have hpart : ∀ (y : DataW H × List MemPlace) (j : Nat) (t : TypeId), ([26, 3, 3, 2, 27, 28, 29, 30] : List TypeId)[j]? = some t → [y0, y1, y2, y3, y4, y5, y6, y7][j]? = some y → ∀ n ∈ y.1.weights Try.prog t, n ≤ reachBytes := fun y j t ht hy n hn => hs n (by
      simp only [DataW.weights, Try.underlying32]
      exact DataW.weights_mem_each (j := j) ht (by rw [List.getElem?_map, hy]; rfl) n hn)
    obtain ⟨z1, e1⟩ := ints_part (ints_int Try.underlying3 h1) 0 (by omega)
    obtain ⟨z2, e2⟩ := ints_part (ints_int Try.underlying3 h2) 0 (by omega)
    obtain ⟨z3, e3⟩ := ints_part (ints_int Try.underlying2 h3) 0 (by omega)
    obtain ⟨pa, np, pc, P, e4, hP⟩ := open_nums Try.underlying27 cz_paint (by omega) (by kernel_rfl) (fun _ _ _ h => ints_paint h) h4 (fun x hx => hlt x (by simp [hx])) (hpart y4 4 _ rfl rfl)
    obtain ⟨ta, nt, tc, way, kn, K, e5, hT⟩ := open_tracks h5 (fun x hx => hlt x (by simp [hx])) (hpart y5 5 _ rfl rfl)
    obtain ⟨ja, nj, jc, J, e6, hJ⟩ := open_nums Try.underlying29 cz_joint (by omega) (by kernel_rfl) (fun _ _ _ h => ints_joint h) h6 (fun x hx => hlt x (by simp [hx])) (hpart y6 6 _ rfl rfl)
    obtain ⟨sa, ns, sc, S, e7, hS⟩ := open_nums Try.underlying30 cz_shape (by omega) (by kernel_rfl) (fun _ _ _ h => ints_shape h) h7 (fun x hx => hlt x (by simp [hx])) (hpart y7 7 _ rfl rfl)
    replace e4 := part1 e4
    replace e5 := part1 e5
    replace e6 := part1 e6
    replace e7 := part1 e7
    obtain ⟨hxs, m2, -, -, -, hhl, hh⟩ := DataW.trod_struct Try.underlying26 h0
    match hxs, hhl with
    | [u0, u1, u2, u3, u4, u5, u6, u7], _ =>
      have g0 : DataW.trod enc Try.prog W base (fun _ => true) held m2 3 ((((l.drop 0).take 10).drop 0).take (Try.prog.cellsOf 3)) = some u0 := hh 0 _ rfl
      have g1 : DataW.trod enc Try.prog W base (fun _ => true) held m2 3 ((((l.drop 0).take 10).drop 1).take (Try.prog.cellsOf 3)) = some u1 := hh 1 _ rfl
      have g2 : DataW.trod enc Try.prog W base (fun _ => true) held m2 3 ((((l.drop 0).take 10).drop 2).take (Try.prog.cellsOf 3)) = some u2 := hh 2 _ rfl
      have g3 : DataW.trod enc Try.prog W base (fun _ => true) held m2 3 ((((l.drop 0).take 10).drop 3).take (Try.prog.cellsOf 3)) = some u3 := hh 3 _ rfl
      have g4 : DataW.trod enc Try.prog W base (fun _ => true) held m2 3 ((((l.drop 0).take 10).drop 4).take (Try.prog.cellsOf 3)) = some u4 := hh 4 _ rfl
      have g5 : DataW.trod enc Try.prog W base (fun _ => true) held m2 2 ((((l.drop 0).take 10).drop 5).take (Try.prog.cellsOf 2)) = some u5 := hh 5 _ rfl
      have g6 : DataW.trod enc Try.prog W base (fun _ => true) held m2 22 ((((l.drop 0).take 10).drop 6).take (Try.prog.cellsOf 22)) = some u6 := hh 6 _ rfl
      have g7 : DataW.trod enc Try.prog W base (fun _ => true) held m2 24 ((((l.drop 0).take 10).drop 7).take (Try.prog.cellsOf 24)) = some u7 := hh 7 _ rfl
      clear hh
      rw [cz_int] at g0 g1 g2 g3 g4
      rw [cz_i64] at g5
      rw [cz_u64] at g6
      rw [cz_hue] at g7
      obtain ⟨w0, f0⟩ := ints_part (ints_int Try.underlying3 g0) 0 (by omega)
      obtain ⟨w1, f1⟩ := ints_part (ints_int Try.underlying3 g1) 0 (by omega)
      obtain ⟨w2, f2⟩ := ints_part (ints_int Try.underlying3 g2) 0 (by omega)
      obtain ⟨w3, f3⟩ := ints_part (ints_int Try.underlying3 g3) 0 (by omega)
      obtain ⟨w4, f4⟩ := ints_part (ints_int Try.underlying3 g4) 0 (by omega)
      obtain ⟨w5, f5⟩ := ints_part (ints_int Try.underlying2 g5) 0 (by omega)
      obtain ⟨w6, f6, -, k6⟩ := DataW.trod_int Try.underlying22 g6
      replace f6 := part1 f6
      have g7' := ints_part (ints_hue g7)
      obtain ⟨w7, f7⟩ := g7' 0 (by omega)
      obtain ⟨w8, f8⟩ := g7' 1 (by omega)
      obtain ⟨w9, f9⟩ := g7' 2 (by omega)
      have hb6 := bounds_u64 k6
      match l, hsz with
      | [c0, c1, c2, c3, c4, c5, c6, c7, c8, c9, c10, c11, c12, c13, c14, c15, c16], _ =>
        simp at f0 f1 f2 f3 f4 f5 f6 f7 f8 f9 e1 e2 e3 e4 e5 e6 e7
        subst f0 f1 f2 f3 f4 f5 f6 f7 f8 f9 e1 e2 e3 e4 e5 e6 e7
        refine ⟨{ w := w0, h := w1, sm := w2, dp := w3, fr := w4, sh := w5, sd := w6.toNat, r := w7, g := w8, b := w9, ey := z1, lk := z2, wd := z3, np := np, P := P, nt := nt, way := way, kn := kn, K := K, nj := nj, J := J, ns := ns, S := S }, ⟨pa, pc, ta, tc, ja, jc, sa, sc⟩, ?_, ⟨hP, hT, hJ, hS, ?_⟩⟩
        · have : ((w6.toNat : Nat) : Int) = w6 := by omega
          simp [SV, SC, this]
        · show w6.toNat < 18446744073709551616
          omega
end

end Go.Proofs.Ytfbppiamlolfpaa.Sc
